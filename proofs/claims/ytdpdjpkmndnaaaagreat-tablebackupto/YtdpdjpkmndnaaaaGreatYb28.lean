import Derived.Test.YtdpdjpkmndnaaaaGreatYb27
import Derived.Test.YtdpdjpkmndnaaaaGreatYb13
import Derived.Deep.CutRange
set_option maxRecDepth 100000
set_option maxHeartbeats 16000000
set_option linter.unusedVariables false
namespace Go.Proofs.YtdpdjpkmndnaaaaGreat
open Go.RowKit _root_.Go.Proofs.Tryz
variable {B c g gi j k most n o p z:Nat} {a:Option Addr} {e t:TypeId} {l:List It} {v:Value} {w w' wr:World} {xs ys:List Nat}
def itB (x:It):List Nat:=enc x.1.length++(x.1++(enc x.2.length++x.2))
def bRg (kind:Nat) (l:List It):List Nat:=enc kind++(enc l.length++l.flatMap itB)
def bBf (l:List It):List Nat:=bRg 1 l
def bA3 (l:List It) (ids:List Nat):List Nat:=bRg 2 l++ids.flatMap enc
structure ItOk (x:It):Prop where
 k0:x.1≠[]
 k1:x.1.length<=64
 v1:x.2.length<=1800
 kb:∀ c∈x.1,c<256
 vb:∀ c∈x.2,c<256
def KV (B:Nat) (w:World) (v:Value) (xs:List Nat):Prop:=∃ a c,v=.slice a xs.length c/\BK B w a xs.length c xs
theorem KV.ft (h:KV B w v xs) (f:FT B w w'):KV B w' v xs:=by
 obtain ⟨a,c,e,hb⟩:=h;exact ⟨a,c,e,hb.ft f⟩
theorem On.set2 {u:Value} (h:On g w wr) (h1:w.heap.size<=gi) (h2:g<=gi):On g w (wr.setCell ⟨gi,o,none⟩ u):=by
 refine ⟨h.1.setCell (p:=⟨gi,o,none⟩) h2 u,fun k hk hg=>?_⟩;rw [kBf _ _ _ _ (by intro e;have:k=gi:=e;omega)];exact h.2 k hk hg
theorem RD.set2 {u:Value} {cs:Array Value} (h:RD B w g a n c xs p) (hg:w.heap[gi]?=some (.cells cs t (0,0))) (hB:B<=gi) (h1:t≠5) (h2:t≠356):RD B (w.setCell ⟨gi,o,none⟩ u) g a n c xs p:=by
 refine ⟨?_,h.hb.ft (FT.set hg hB h1),h.hB⟩;rw [kBf _ _ _ _ ?_,h.hr];intro e;have e:g=gi:=e;subst e;rw [h.hr] at hg;simp only [oI,cI] at hg;exact h2 hg.2.1.symm
theorem bIi (h:RD B w g a n c xs p) (pre rest:List Nat) (hx:xs=pre++(enc ys.length++(ys++rest))) (hp:pre.length=p) (hk:ys.length<=most) (hm:most<9223372036854775808) :
  Calls prog 242 #[.pointer (some ⟨g,0,none⟩),.int .i64 (most:Int)] w fun e w'=>∃ v,e=.returned v/\KV B w' v ys/\RD B w' g a n c xs (p+grp ys.length+ys.length)/\On g w w':=by
 subst hx hp;refine (bP4 h hk hm).mono ?_;rintro e w' ⟨a3,c3,rfl,h1,h2,h3⟩;exact ⟨_,rfl,⟨_,_,rfl,h1⟩,h2,h3⟩
theorem aFy (h:RD B w g a n c xs p) (pre rest:List Nat) (hx:xs=pre++(enc k++rest)) (hp:pre.length=p) (hk:k<9223372036854775808) :
  Calls prog 233 #[.pointer (some ⟨g,0,none⟩)] w fun e w'=>e=.returned (.int .i64 (k:Int))/\RD B w' g a n c xs (p+grp k)/\On g w w':=by
 subst hx hp;exact bJz h hk
theorem bKw:(prog.info? 300).map (fun i=>(i.zero,i.size,i.bytes))=some (some (.agg #[.slice none 0 0,.slice none 0 0]),2,48):=by kernel_rfl
theorem bKu:(prog.info? 294).map (fun i=>(i.zero,i.size,i.bytes))=some (some .nilIface,1,16):=by kernel_rfl
theorem aIe {l:List Value} (h:w.ownsRow B e z (.slice (some ⟨g,0,none⟩) n n) n l) (hl:l.length=n*z):w.heap[g]?=some (.cells l.toArray e (0,0))/\B<=g:=by
 rcases h.2 with ⟨e,_⟩ | ⟨g',cap,cur,e,h1,h2,h3,h4,h5,h6⟩
 ·cases e
 ·simp only [kBl,oI,Addr.mk.injEq,and_true,true_and] at e;obtain ⟨rfl,rfl⟩:=e;refine ⟨?_,h1⟩;rw [h2]
  congr 2
  rw [kAh (by simp;omega)] at h6;rw [<-h6]
def IR (B:Nat) (w:World) (g:Nat) (l:List It):Prop:=∃ kf vf,w.heap[g]?=some (.cells (two kf vf l.length).toArray 300 (0,0))/\∀ i it,l[i]?=some it->KV B w (kf i) it.1/\KV B w (vf i) it.2
def bHv (l:List It) (j:Nat):List Nat:=(l.take j).flatMap itB
theorem bJk {x:It} (h:l[j]?=some x):bHv l (j+1)=bHv l j++itB x:=by
 unfold bHv;rw [kAs,h];simp
theorem aJk {x:It} (h:l[j]?=some x):l.flatMap itB=bHv l j++(itB x++(l.drop (j+1)).flatMap itB):=by
 conv=>lhs;rw [aFh h]
 simp [bHv]
theorem bRh {x:It} (h:ItOk x):(itB x).length=grp x.1.length+x.1.length+(grp x.2.length+x.2.length):=by
 have h1:=aAs x.1.length (by have:=(aAt x.1.length (by have:=h.k1;omega)).1;omega);have h2:=aAs x.2.length (by have:=(aAt x.2.length (by have:=h.v1;omega)).1;omega);simp only [itB,lA,h1,h2];omega
theorem bFu (h:RD B w g a n c xs p) (pre rest:List Nat) (l:List It) (hx:xs=pre++(enc l.length++(l.flatMap itB++rest))) (hp:pre.length=p) (h1:1<=l.length) (h4:l.length<=4) (hok:∀ x∈l,ItOk x) (hs:Srt l) {p2:Nat} (hp2:p+grp l.length+(l.flatMap itB).length=p2) :
  Calls prog 234 #[.pointer (some ⟨g,0,none⟩)] w fun e w'=>∃ gi,e=.returned (.slice (some ⟨gi,0,none⟩) l.length l.length)/\w.heap.size<=gi/\IR B w' gi l/\RD B w' g a n c xs p2/\On g w w':=by
 obtain ⟨i0,hi,hz0,hz1,hz2⟩:=info_parts bKw;have HN:=zH (aFy h pre (l.flatMap itB++rest) (by rw [hx]) hp (by omega));have HX:=zH hx;have HP:=zH hp;have HP2:=zH hp2;have HOK:=zH hok;have HS:=zH hs;have HGB:=zH h.hB;have HGL:=zH (lO h.hr);have HMT:=zH (bFk l.length);obtain ⟨L,hL⟩:∃ L,l.length=L:=⟨_,rfl⟩;have HL:=zH hL;have HEL:=zH (aAs L (by have:=(aAt L (by omega)).1;omega));rw [hL] at HN HMT h1 h4 ⊢;rw [hL] at HP2;clear h hx hp hok hs hL hp2;have q1:decide ((1:Int)<=(L:Int))=true:=kAc (by omega);have q2:decide ((L:Int)<=4)=true:=kAc (by omega);go_enter func234,ntmps234;go_wp2_with fail;refine HN.o.mono ?_;rintro e w1 ⟨rfl,hR1,hO1⟩;have HR1:=zH hR1;have HO1:=zH hO1;clear hR1 hO1 HN;go_wp2_with fail;refine (aA2 w1).mono ?_;rintro e w2 ⟨rfl,hw⟩;have hw:=hw.symm;subst hw;go_wp2_with (refine wpList_make_full w1 rfl _ _ 296 rfl w1.heap.size 300 i0 (.agg #[.slice none 0 0,.slice none 0 0]) 2 underlying296 hi hz0 hz1 .i64 .i64 L L L rfl rfl rfl rfl (by rw [hz2];omega) (by unfold maxLen;omega) (nR _) ?_;intro w2 ho2 hg2;rw [HMT.o] at ho2;have HO2:=zH (aIe ho2 (by rw [aBm]));have HG2:=zH ((kBh w1.heap.size w1).grown hg2 (nR _) (fun k hk=>by cases hk));clear ho2 hg2);generalize hgi:w1.heap.size=gi at *;have HGI:=zH hgi;clear hgi;have HW1:Hid (w.heap.size<=gi):=by rw [<-HGI.o];exact HO1.o.1.size
 have HO2':Hid (On g w w2):=HO1.o.trans (On.of (by have:=HGL.o;have:=HW1.o;have:=HGI.o;omega) (by rw [HGI.o];exact HG2.o))
 have HR2:Hid (RD B w2 g a n c xs (p+grp L)):=⟨by
   rw [HG2.o.block g (by have:=HGL.o;have:=HW1.o;omega)];exact HR1.o.hr,HR1.o.hb.ft (FT.of (by rw [HGI.o];exact HG2.o) (by have:=HGB.o;have:=HGL.o;have:=HW1.o;have:=HGI.o;omega)),HR1.o.hB⟩
 clear HO1 HR1 HG2;have HB2:Hid (B<=gi):=by have:=HGB.o;have:=HGL.o;have:=HW1.o;show _<=_;omega
 go_loopw [20,5] (fun i ah wx=>∃ (j:Nat) (kf vf:Nat->Value),j<=L/\i=.int .i64 j/\wx.heap[gi]?=some (.cells (two kf vf L).toArray 300 (0,0))/\(∀ k it,k<j->l[k]?=some it->KV B wx (kf k) it.1/\KV B wx (vf k) it.2)/\KV B wx ah (if j=0 then [] else (l.getD (j-1) ([],[])).1)/\RD B wx g a n c xs (p+grp L+(bHv l j).length)/\On g w wx) (fun i _ _=>L-(intOf i).toNat)
 case atStart=>exact ⟨0,_,_,by omega,rfl,HO2.o.1,fun k it hk=>by omega,⟨none,0,rfl,BK.nil _ _⟩,HR2.o,HO2'.out⟩
 case round =>
  clear HO2 HR2 HO2';obtain ⟨j,kf,vf,hj,rfl,hH,hK,hA0,hR,hO⟩:=hrel;obtain ⟨ay,HAY⟩:∃ ay,Hid ((if j=0 then [] else (l.getD (j-1) ([],[])).1)=ay):=⟨_,rfl⟩;rw [HAY.o] at hA0;obtain ⟨aa,ac,rfl,hA⟩:=hA0;generalize hal:ay.length=al at *;have HH:=zH hH;have HK:=zH hK;have HA:=zH hA;have HR:=zH hR;have HO:=zH hO;clear hH hK hA hR hO;by_cases hjn:j<L
  ·have x1:(j:Int)<(L:Int):=by omega
   obtain ⟨x,hxj⟩:∃ x,l[j]?=some x:=⟨_,gE (by rw [HL.o];exact hjn)⟩;have hokx:=HOK.o x (mG hxj);have HXJ:=zH hxj;have HKX:=zH hokx
   have HT1:=zH (bIi (ys:=x.1) (most:=64) HR.o (pre++(enc L++bHv l j)) (enc x.2.length++(x.2++((l.drop (j+1)).flatMap itB++rest))) (by
    rw [HX.o,HL.o,aJk hxj];simp [itB]) (by rw [List.length_append,List.length_append,HP.o,HEL.o];omega) hokx.k1 (by omega))
   have e1:L<=4:=h4;clear hxj hokx;go_wp2_with fail;refine HT1.o.mono ?_;rintro e w3 ⟨v3,rfl,hv3,hR3,hO3⟩;obtain ⟨a3,c3,rfl,hb3⟩:=id hv3;clear hb3;have HV3:=zH hv3;have HR3:=zH hR3;have HO3:=zH hO3;have HH3:Hid (w3.heap[gi]?=some (.cells (two kf vf L).toArray 300 (0,0))):=(hO3.2 gi (lO HH.o) (by have:=HGL.o;have:=HW1.o;omega)).trans HH.o;have HF3:=zH (hO3.ft HGB.o HR.o.hr (by decide));clear hv3 hR3 hO3 HT1;have f3:w3.frozen? ⟨gi,j*2,none⟩=false:=aAm HH3.o;have r3:w3.cell? ⟨gi,j*2,none⟩=some (kf j):=by rw [aAd HH3.o,kAj];exact aBh kf vf j L hjn
   have HH4:Hid ((w3.setCell ⟨gi,j*2,none⟩ (.slice a3 x.1.length c3)).heap[gi]?=some (.cells (two (upd kf j (.slice a3 x.1.length c3)) vf L).toArray 300 (0,0))):=by
    show _=_;rw [kBg _ _ _ _ _ _ HH3.o,List.setIfInBounds_toArray,bE1 kf vf j (.slice a3 x.1.length c3) L hjn]
   have HF4:Hid (FT B w3 (w3.setCell ⟨gi,j*2,none⟩ (.slice a3 x.1.length c3))):=FT.set HH3.o HB2.o (by decide);have HR4:=zH (HR3.o.set2 (o:=j*2) (u:=(.slice a3 x.1.length c3)) HH3.o HB2.o (by decide) (by decide));have HO4:=zH ((HO.o.trans HO3.o).set2 (o:=j*2) (u:=(.slice a3 x.1.length c3)) HW1.o (by have:=HGL.o;have:=HW1.o;omega));go_upto_region 9 with fail;generalize w3.setCell ⟨gi,j*2,none⟩ (.slice a3 x.1.length c3)=w4 at *
   have HT2:=zH (bIi (ys:=x.2) (most:=1800) HR4.o (pre++(enc L++(bHv l j++(enc x.1.length++x.1)))) ((l.drop (j+1)).flatMap itB++rest) (by
    rw [HX.o,HL.o,aJk HXJ.o];simp [itB]) (by
     have:=aAs x.1.length (by have:=(aAt x.1.length (by have:=HKX.o.k1;omega)).1;omega)
     simp only [lA,HP.o,HEL.o,this];omega) HKX.o.v1 (by omega))
   go_wp2_with fail;refine HT2.o.mono ?_;rintro e w5 ⟨v5,rfl,hv5,hR5,hO5⟩;obtain ⟨a5,c5,rfl,hb5⟩:=id hv5;clear hb5;have HV5:=zH hv5;have HR5:=zH hR5;have HO5:=zH hO5;have HH5:Hid (w5.heap[gi]?=some (.cells (two (upd kf j (.slice a3 x.1.length c3)) vf L).toArray 300 (0,0))):=(hO5.2 gi (lO HH4.o) (by have:=HGL.o;have:=HW1.o;omega)).trans HH4.o;have HF5:=zH (hO5.ft HGB.o HR4.o.hr (by decide));clear hv5 hR5 hO5 HT2 f3 r3;have f5:w5.frozen? ⟨gi,j*2+1,none⟩=false:=aAm HH5.o;have r5:w5.cell? ⟨gi,j*2+1,none⟩=some (vf j):=by rw [aAd HH5.o,kAj];exact aDi _ vf j L hjn
   have HH6:Hid ((w5.setCell ⟨gi,j*2+1,none⟩ (.slice a5 x.2.length c5)).heap[gi]?=some (.cells (two (upd kf j (.slice a3 x.1.length c3)) (upd vf j (.slice a5 x.2.length c5)) L).toArray 300 (0,0))):=by
    show _=_;rw [kBg _ _ _ _ _ _ HH5.o,List.setIfInBounds_toArray,bE0 _ vf j (.slice a5 x.2.length c5) L hjn]
   have HF6:Hid (FT B w5 (w5.setCell ⟨gi,j*2+1,none⟩ (.slice a5 x.2.length c5))):=FT.set HH5.o HB2.o (by decide);have HR6:=zH (HR5.o.set2 (o:=j*2+1) (u:=(.slice a5 x.2.length c5)) HH5.o HB2.o (by decide) (by decide));have HO6:=zH ((HO4.o.trans HO5.o).set2 (o:=j*2+1) (u:=(.slice a5 x.2.length c5)) HW1.o (by have:=HGL.o;have:=HW1.o;omega));have HFT:=zH (((HF3.o.trans HF4.o).trans HF5.o).trans HF6.o);have HKV3:=zH (HV3.o.ft ((HF4.o.trans HF5.o).trans HF6.o));have HKV5:=zH (HV5.o.ft HF6.o);go_upto_region 10 with fail;generalize w5.setCell ⟨gi,j*2+1,none⟩ (.slice a5 x.2.length c5)=w6 at *;have r6:w6.cell? ⟨gi,j*2,none⟩=some (.slice a3 x.1.length c3):=by rw [aAd HH6.o,kAj,aBh _ _ j L hjn,bB3]
   have HB3:Hid (BK B w6 a3 x.1.length c3 x.1):=by
    obtain ⟨q1,q2,q3,q4⟩:=HKV3.o;simp only [kBl] at q3;obtain ⟨rfl,-,rfl⟩:=q3;exact q4
   have HC:=zH (aA9 a3 aa _ c3 _ ac _ _ w6 HB3.o.1 (HA.o.ft HFT.o).1);have HCP:Hid (0<bAb x.1 ay):=by
    show 0<_;rw [<-HAY.o];by_cases q0:j=0
    ·rw [kAg q0];exact cmpB_nil.2 HKX.o.k0
    ·rw [kAb q0];obtain ⟨y,hy⟩:∃ y,l[j-1]?=some y:=⟨_,gE (by rw [HL.o];omega)⟩;have:=List.pairwise_iff_getElem.1 HS.o (j-1) j (by rw [HL.o];omega) (by rw [HL.o];exact hjn) (by omega);rw [(kAx.1 hy).2,(kAx.1 HXJ.o).2] at this;rw [kAa,hy];show 0<bAb x.1 y.1;rw [aCx];omega
   have q9:decide ((0:Int)<bAb x.1 ay)=true:=kAc HCP.o;generalize bAb x.1 ay=cv at *;go_wp2_with fail;refine HC.o.mono ?_;rintro e w7 ⟨rfl,hw⟩;have hw:=hw.symm;subst hw;go_wp2_with fail;refine (aA2 w6).mono ?_;rintro e w7 ⟨rfl,hw⟩;have hw:=hw.symm;subst hw;go_wp2;go_roundw
   case rel =>
    refine ⟨j+1,upd kf j (.slice a3 x.1.length c3),upd vf j (.slice a5 x.2.length c5),by omega,by go_num,HH6.o,fun k it hk hit=>?_,?_,?_,HO6.o⟩
    ·by_cases q:k=j
     ·subst q;rw [HXJ.o] at hit;simp only [oI] at hit;subst hit;rw [bB3,bB3];exact ⟨HKV3.o,HKV5.o⟩
     ·rw [upd_ne _ _ q,upd_ne _ _ q];obtain ⟨z1,z2⟩:=HK.o k it (by omega) hit;exact ⟨z1.ft HFT.o,z2.ft HFT.o⟩
    ·rw [kAb (by omega),Nat.add_sub_cancel,kAa,HXJ.o];exact HKV3.o
    ·rw [bJk HXJ.o,lA,bRh HKX.o];have:=HR6.o;rw [show p+grp L+(bHv l j).length+grp x.1.length+x.1.length+grp x.2.length+x.2.length=p+grp L+((bHv l j).length+(grp x.1.length+x.1.length+(grp x.2.length+x.2.length))) by omega] at this;exact this
   case measure=>simp [intOf];omega
  ·have x1:¬ (j:Int)<(L:Int):=by omega
   have e:j=L:=by omega
   subst e;go_wp2;go_ret;refine ⟨gi,rfl,HW1.o,⟨kf,vf,by rw [HL.o];exact HH.o,fun i it hit=>HK.o i it (by rw [<-HL.o];exact (lL hit)) hit⟩,?_,HO.o⟩;have e9:bHv l j=l.flatMap itB:=by unfold bHv;rw [kAh (Nat.le_of_eq HL.o)]
   have:=HR.o;rw [e9,HP2.o] at this;exact this
def plV (i:Nat):Value:=.iface 257 (.int .i64 (i:Int))
theorem bG5 (n:Nat):(madeCells (Value.nilIface).cells (n*1)).toList=List.replicate n Value.nilIface:=by
 have:(Value.nilIface).cells=#[Value.nilIface]:=rfl;rw [this,Nat.mul_one,toList_madeCells_one]
def bJj (ids:List Nat) (j:Nat):List Nat:=(ids.take j).flatMap enc
theorem bJi {l:List Nat} {x:Nat} (h:l[j]?=some x):bJj l (j+1)=bJj l j++enc x:=by
 unfold bJj;rw [kAs,h];simp
theorem bGy {l:List Nat} {x:Nat} (h:l[j]?=some x):l.flatMap enc=bJj l j++(enc x++(l.drop (j+1)).flatMap enc):=by
 conv=>lhs;rw [aFh h]
 simp [bJj]
def plK (ids:List Nat) (j:Nat):List Value:=(ids.take j).map plV++List.replicate (ids.length-j) Value.nilIface
theorem bQt {ids:List Nat} {x:Nat} (h:ids[j]?=some x):(plK ids j).set j (plV x)=plK ids (j+1):=by
 have hj:=(lL h);unfold plK;rw [List.set_append_right _ _ (by simp;omega),kAp,kAt,Nat.min_eq_left (by omega),Nat.sub_self,kAs,h,show ids.length-j=(ids.length-(j+1))+1 by omega,List.replicate_succ];simp
theorem bQu (ids:List Nat):plK ids ids.length=ids.map plV:=by simp [plK]
theorem bSy (ids:List Nat) (j:Nat) (h:j<ids.length):(plK ids j)[j]?=some .nilIface:=by
 unfold plK;rw [kAo (by simp;omega),kAp,kAt,Nat.min_eq_left (by omega),Nat.sub_self,List.getElem?_replicate];rw [kAg (by omega)]
theorem bJm (h:RD B w g a n c xs p) (pre rest:List Nat) (ids:List Nat) (hx:xs=pre++(ids.flatMap enc++rest)) (hp:pre.length=p) (h5:ids.length<=5) (hid:∀ x∈ids,x<9223372036854775808) {p2:Nat} (hp2:p+(ids.flatMap enc).length=p2) {L:Nat} (hL:ids.length=L) :
  Calls prog 235 #[.pointer (some ⟨g,0,none⟩),.int .i64 (L:Int)] w fun e w'=>∃ gi,e=.returned (.slice (some ⟨gi,0,none⟩) L L)/\w.heap.size<=gi/\w'.heap[gi]?=some (.cells (ids.map plV).toArray 294 (0,0))/\RD B w' g a n c xs p2/\On g w w':=by
 obtain ⟨i0,hi,hz0,hz1,hz2⟩:=info_parts bKu;have HX:=zH hx;have HP:=zH hp;have HP2:=zH hp2;have HID:=zH hid;have HGB:=zH h.hB;have HGL:=zH (lO h.hr);have HMT:=zH (bG5 L);have HL:=zH hL;have HR0:=zH h;rw [hL] at h5;clear h hx hp hL hp2 hid;go_enter func235,ntmps235;go_wp2_with (refine wpList_make_full w rfl _ _ 304 rfl w.heap.size 294 i0 .nilIface 1 underlying304 hi hz0 hz1 .i64 .i64 L L L rfl rfl rfl rfl (by rw [hz2];omega) (by unfold maxLen;omega) (nR _) ?_;intro w2 ho2 hg2;rw [HMT.o] at ho2;have HO2:=zH (aIe ho2 (by simp));have HG2:=zH ((kBh w.heap.size w).grown hg2 (nR _) (fun k hk=>by cases hk));clear ho2 hg2);generalize hgi:w.heap.size=gi at *;have HW1:Hid (w.heap.size<=gi):=by show _<=_;omega
 have HGI:=zH hgi;clear hgi;have HO2':Hid (On g w w2):=On.of (by have:=HGL.o;have:=HGI.o;omega) (by rw [HGI.o];exact HG2.o)
 have HR2:Hid (RD B w2 g a n c xs p):=⟨by
   rw [HG2.o.block g (by have:=HGL.o;omega)];exact HR0.o.hr,HR0.o.hb.ft (FT.of (by rw [HGI.o];exact HG2.o) (by have:=HGB.o;have:=HGL.o;have:=HGI.o;omega)),HR0.o.hB⟩
 have HH2:Hid (w2.heap[gi]?=some (.cells (plK ids 0).toArray 294 (0,0))):=by
  show _=_;rw [HO2.o.1];simp [plK,HL.o]
 clear HG2 HR0 HO2;have HB2:Hid (B<=gi):=by have:=HGB.o;have:=HGL.o;show _<=_;omega
 go_loopw [11] (fun i wx=>∃ j:Nat,j<=L/\i=.int .i64 j/\wx.heap[gi]?=some (.cells (plK ids j).toArray 294 (0,0))/\RD B wx g a n c xs (p+(bJj ids j).length)/\On g w wx) (fun i _=>L-(intOf i).toNat)
 case atStart=>exact ⟨0,by omega,rfl,HH2.o,HR2.o,HO2'.out⟩
 case round =>
  clear HH2 HR2 HO2';obtain ⟨j,hj,rfl,hH,hR,hO⟩:=hrel;have HH:=zH hH;have HR:=zH hR;have HO:=zH hO;clear hH hR hO;by_cases hjn:j<L
  ·have x1:(j:Int)<(L:Int):=by omega
   obtain ⟨x,hxj⟩:∃ x,ids[j]?=some x:=⟨_,gE (by rw [HL.o];exact hjn)⟩;have hx63:=HID.o x (mG hxj);have HXJ:=zH hxj
   have HT1:=zH (aFy HR.o (pre++bJj ids j) ((ids.drop (j+1)).flatMap enc++rest) (by
    rw [HX.o,bGy hxj];simp) (by rw [lA,HP.o]) hx63)
   have HEX:=zH (aAs x (by have:=(aAt x hx63).1;omega));clear hxj;go_wp2_with fail;refine HT1.o.mono ?_;rintro e w3 ⟨rfl,hR3,hO3⟩;have HR3:=zH hR3;have HO3:=zH hO3;have HH3:Hid (w3.heap[gi]?=some (.cells (plK ids j).toArray 294 (0,0))):=(hO3.2 gi (lO HH.o) (by have:=HGL.o;have:=HGI.o;omega)).trans HH.o;clear hR3 hO3 HT1;have f3:w3.frozen? ⟨gi,j,none⟩=false:=aAm HH3.o;have r3:w3.cell? ⟨gi,j,none⟩=some .nilIface:=by rw [aAd HH3.o,kAj];exact bSy ids j (by rw [HL.o];exact hjn)
   have HH4:Hid ((w3.setCell ⟨gi,j,none⟩ (plV x)).heap[gi]?=some (.cells (plK ids (j+1)).toArray 294 (0,0))):=by
    show _=_;rw [kBg _ _ _ _ _ _ HH3.o,List.setIfInBounds_toArray,bQt HXJ.o]
   have HR4:=zH (HR3.o.set2 (o:=j) (u:=plV x) HH3.o HB2.o (by decide) (by decide));have HO4:=zH ((HO.o.trans HO3.o).set2 (o:=j) (u:=plV x) HW1.o (by have:=HGL.o;have:=HGI.o;omega));go_wp2;go_roundw
   case rel =>
    refine ⟨j+1,by omega,by go_num,HH4.o,?_,HO4.o⟩;have:=HR4.o;rw [show p+(bJj ids j).length+grp x=p+((bJj ids j).length+(enc x).length) by rw [HEX.o];omega,<-lA,<-bJi HXJ.o] at this;exact this
   case measure=>simp [intOf];omega
  ·have x1:¬ (j:Int)<(L:Int):=by omega
   have e:j=L:=by omega
   subst e;go_wp2;go_ret;have e9:bJj ids j=ids.flatMap enc:=by unfold bJj;rw [kAh (Nat.le_of_eq HL.o)]
   have h8:=HR.o;have h7:=HH.o;rw [<-HL.o,bQu] at h7;rw [e9,HP2.o] at h8;exact ⟨gi,rfl,HW1.o,h7,h8,HO.o⟩
def LfN (B B1:Nat) (w:World) (v:Value) (l:List It):Prop:=∃ gl gi,v=.iface 331 (.pointer (some ⟨gl,0,none⟩))/\B1<=gl/\B1<=gi/\w.heap[gl]?=some (.cells #[.slice (some ⟨gi,0,none⟩) l.length l.length] 330 (0,0))/\IR B w gi l
def BrN (B B1:Nat) (w:World) (v:Value) (l:List It) (ids:List Nat):Prop:=∃ gb gi gc,v=.iface 302 (.pointer (some ⟨gb,0,none⟩))/\B1<=gb/\B1<=gi/\B1<=gc/\w.heap[gb]?=some (.cells #[.slice (some ⟨gi,0,none⟩) l.length l.length,.slice (some ⟨gc,0,none⟩) ids.length ids.length] 306 (0,0))/\IR B w gi l/\w.heap[gc]?=some (.cells (ids.map plV).toArray 294 (0,0))
theorem IR.ft (h:IR B w gi l) (f:FT B w w') (hg:w'.heap[gi]?=w.heap[gi]?):IR B w' gi l:=by
 obtain ⟨kf,vf,h1,h2⟩:=h;exact ⟨kf,vf,hg.trans h1,fun i it hi=>⟨(h2 i it hi).1.ft f,(h2 i it hi).2.ft f⟩⟩
theorem IR.later (h:IR B w gi l) (hb:Below w.heap.size w w') (hB:B<=w.heap.size):IR B w' gi l:=by
 refine h.ft (FT.of hb hB) ?_;obtain ⟨kf,vf,h1,_⟩:=h;exact hb.block _ (lO h1)
theorem bD8 (h:BK B w a n c xs) (hB:B<=w.heap.size) (l:List It) (hx:xs=bBf l) (h1:1<=l.length) (h4:l.length<=4) (hok:∀ x∈l,ItOk x) (hs:Srt l) :
  Calls prog 217 #[.slice a n c] w fun e w'=>∃ v,e=.returned v/\LfN B w.heap.size w' v l/\Below w.heap.size w w':=by
 have hl1:(enc 1).length=grp 1:=aAs 1 (by have:=(aAt 1 (by omega)).1;omega);have hl2:(enc l.length).length=grp l.length:=aAs _ (by have:=(aAt l.length (by omega)).1;omega);have hlen:grp 1+grp l.length+(l.flatMap itB).length=n:=by
  rw [<-h.1.hlen,hx,bBf,bRg,lA,lA,hl1,hl2];omega
 have HLEN:=zH hlen;have HX:Hid (xs=[]++(enc 1++(enc l.length++l.flatMap itB))):=by rw [hx];rfl
 have HX2:Hid (xs=enc 1++(enc l.length++(l.flatMap itB++[]))):=by rw [hx,List.append_nil];rfl
 have HL1:=zH hl1;have HRD:Hid (RD B (w.alloc (.cells #[.slice a n c,.int .i64 0] 356)) w.heap.size a n c xs 0):=⟨kBm w _,h.later (aAk w _) hB,hB⟩;have HBX:=zH (aAk w (.cells #[.slice a n c,.int .i64 0] 356));have HSZ:Hid ((w.alloc (.cells #[.slice a n c,.int .i64 0] 356)).heap.size=w.heap.size+1):=by show _=_;simp
 have HOK:=zH hok;have HS:=zH hs;clear h hx hl1 hl2 hok hs hlen;go_enter func217,ntmps217;go_upto_region 2 with fail;generalize w.alloc (.cells #[.slice a n c,.int .i64 0] 356)=w0 at *;generalize hG:w.heap.size=G at *;have HN:=zH (aFy HRD.o [] (enc l.length++l.flatMap itB) HX.o rfl (by omega));go_wp2_with fail;refine HN.o.mono ?_;rintro e w1 ⟨rfl,hR1,hO1⟩;have HO1:=zH hO1;have HS1:=zH hO1.1.size;have HI:=zH (bFu hR1 (enc 1) [] l HX2.o (by rw [HL1.o,Nat.zero_add]) h1 h4 HOK.o HS.o (p2:=n) (by rw [Nat.zero_add];exact HLEN.o));clear hR1 hO1 HN;generalize hLn:l.length=L at *;have HLn:=zH hLn;clear hLn;go_wp2_with fail;refine HI.o.mono ?_;rintro e w2 ⟨gi,rfl,hgi,hIR,hR2,hO2⟩;have HGI:=zH hgi;have HIR:=zH hIR;have HR2:=zH hR2;have HO2:=zH (HO1.o.trans hO2);have r1:w2.cell? ⟨G,1,none⟩=some (.int .i64 (n:Int)):=aAd hR2.hr;clear hgi hIR hR2 hO2 HI HO1;go_wp2_with fail;refine (aA2 w2).mono ?_;rintro e w3 ⟨rfl,hw⟩;have hw:=hw.symm;subst hw;have HBE:=zH (aAk w2 (.cells #[.slice (some ⟨gi,0,none⟩) L L] 330));have HNE:Hid ((w2.alloc (.cells #[.slice (some ⟨gi,0,none⟩) L L] 330)).heap[w2.heap.size]?=some (.cells #[.slice (some ⟨gi,0,none⟩) L L] 330 (0,0))):=kBm w2 _;go_wp2;go_ret;have hsz:G+1<=w2.heap.size:=by have:=HO2.o.1.size;have:=HSZ.o;omega
 have hgs:G<=gi:=by have h9:=HGI.o;have h8:=HSZ.o;have h7:=HS1.o;omega
 refine ⟨_,rfl,⟨w2.heap.size,gi,rfl,by omega,by omega,?_,HIR.o.later HBE.o (by omega)⟩,?_⟩
 ·rw [HLn.o];exact HNE.o
 ·rw [hG];exact (HBX.o.trans HO2.o.1).trans (HBE.o.mono (by omega))
theorem aKf (h:BK B w a n c xs) (hB:B<=w.heap.size) (l:List It) (ids:List Nat) (hx:xs=bA3 l ids) (hids:ids.length=l.length+1) (hid:∀ x∈ids,x<9223372036854775808) (h1:1<=l.length) (h4:l.length<=4) (hok:∀ x∈l,ItOk x) (hs:Srt l) :
  Calls prog 217 #[.slice a n c] w fun e w'=>∃ v,e=.returned v/\BrN B w.heap.size w' v l ids/\Below w.heap.size w w':=by
 have hl1:(enc 2).length=grp 2:=aAs 2 (by have:=(aAt 2 (by omega)).1;omega);have hl2:(enc l.length).length=grp l.length:=aAs _ (by have:=(aAt l.length (by omega)).1;omega);have hlen:grp 2+grp l.length+(l.flatMap itB).length+(ids.flatMap enc).length=n:=by
  rw [<-h.1.hlen,hx,bA3,bRg,lA,lA,lA,hl1,hl2];omega
 have HLEN:=zH hlen;have HX:Hid (xs=[]++(enc 2++(enc l.length++(l.flatMap itB++ids.flatMap enc)))):=by show _=_;rw [hx];simp [bA3,bRg]
 have HX2:Hid (xs=enc 2++(enc l.length++(l.flatMap itB++ids.flatMap enc))):=by show _=_;rw [hx];simp [bA3,bRg]
 have HX3:Hid (xs=(enc 2++(enc l.length++l.flatMap itB))++(ids.flatMap enc++[])):=by show _=_;rw [hx];simp [bA3,bRg]
 have HLI:=zH hids;have HID:=zH hid;have HL2:=zH hl2;have HL1:=zH hl1;have HRD:Hid (RD B (w.alloc (.cells #[.slice a n c,.int .i64 0] 356)) w.heap.size a n c xs 0):=⟨kBm w _,h.later (aAk w _) hB,hB⟩;have HBX:=zH (aAk w (.cells #[.slice a n c,.int .i64 0] 356));have HSZ:Hid ((w.alloc (.cells #[.slice a n c,.int .i64 0] 356)).heap.size=w.heap.size+1):=by show _=_;simp
 have HOK:=zH hok;have HS:=zH hs;clear h hx hl1 hl2 hok hs hlen hids hid;go_enter func217,ntmps217;go_upto_region 2 with fail;generalize w.alloc (.cells #[.slice a n c,.int .i64 0] 356)=w0 at *;generalize hG:w.heap.size=G at *;have HN:=zH (aFy HRD.o [] (enc l.length++(l.flatMap itB++ids.flatMap enc)) HX.o rfl (by omega));go_wp2_with fail;refine HN.o.mono ?_;rintro e w1 ⟨rfl,hR1,hO1⟩;have HO1:=zH hO1;have HS1:=zH hO1.1.size;have HI:=zH (bFu hR1 (enc 2) (ids.flatMap enc) l HX2.o (by rw [HL1.o,Nat.zero_add]) h1 h4 HOK.o HS.o (p2:=(enc 2++(enc l.length++l.flatMap itB)).length) (by rw [Nat.zero_add,lA,lA,HL1.o,HL2.o];omega));clear hR1 hO1 HN;have HPL:Hid ((enc 2++(enc l.length++l.flatMap itB)).length+(ids.flatMap enc).length=n):=by
  show _=_;rw [lA,lA,HL1.o,HL2.o];have:=HLEN.o;omega
 generalize enc 2++(enc l.length++l.flatMap itB)=pr at *;generalize hLn:l.length=L at *;have HLn:=zH hLn;clear hLn;go_wp2_with fail;refine HI.o.mono ?_;rintro e w2 ⟨gi,rfl,hgi,hIR,hR2,hO2⟩;have HGI:=zH hgi;have HIR:=zH hIR;have HR2:=zH hR2;have HS2:=zH hO2.1.size;have HO2:=zH (HO1.o.trans hO2);have HPP:=zH (bJm hR2 pr [] ids HX3.o rfl (by rw [HLI.o];omega) HID.o HPL.o (L:=L+1) HLI.o);have HGG:Hid (G<w0.heap.size):=by have:=HSZ.o;show _<_;omega
 have HL4:Hid (L<=4):=h4;clear hgi hIR hR2 hO2 HI HO1;have el:IntKind.i64.wrap ((L:Int)+1)=((L+1:Nat):Int):=by rw [IntKind.wrap_i64];omega
 go_wp2_with fail;refine (aA2 w2).mono ?_;rintro e w3 ⟨rfl,hw⟩;have hw:=hw.symm;subst hw;have ec:((L+1:Nat):Int)=(L:Int)+1:=by omega
 rw [ec] at HPP;go_wp2_with fail;refine HPP.o.mono ?_;rintro e w4 ⟨gc,rfl,hgc,hC,hR4,hO4⟩;have HGC:=zH hgc;have HC:=zH hC;have HO4:=zH hO4;have HF4:=zH (hO4.ft HRD.o.hB HR2.o.hr (by decide));have HO24:=zH (HO2.o.trans hO4);have r1:w4.cell? ⟨G,1,none⟩=some (.int .i64 (n:Int)):=aAd hR4.hr;clear hgc hC hR4 hO4 HPP;go_wp2_with fail;refine (aA2 w4).mono ?_;rintro e w5 ⟨rfl,hw⟩;have hw:=hw.symm;subst hw;have HBE:=zH (aAk w4 (.cells #[.slice (some ⟨gi,0,none⟩) L L,.slice (some ⟨gc,0,none⟩) (L+1) (L+1)] 306));have HNE:Hid ((w4.alloc (.cells #[.slice (some ⟨gi,0,none⟩) L L,.slice (some ⟨gc,0,none⟩) (L+1) (L+1)] 306)).heap[w4.heap.size]?=some (.cells #[.slice (some ⟨gi,0,none⟩) L L,.slice (some ⟨gc,0,none⟩) (L+1) (L+1)] 306 (0,0))):=kBm w4 _;go_wp2;go_ret;have hs0:=HSZ.o;have hs1:=HS1.o;have hs2:=HS2.o;have hs4:=HO4.o.1.size;have hg1:=HGI.o;have hg2:=HGC.o;have hir4:IR B w4 gi l:=HIR.o.ft HF4.o (HO4.o.2 gi (by obtain ⟨kf,vf,q,_⟩:=HIR.o;exact (lO q)) (by omega));refine ⟨_,rfl,⟨w4.heap.size,gi,gc,rfl,by omega,by omega,by omega,?_,hir4.later HBE.o (by omega),?_⟩,?_⟩
 ·rw [HLn.o,HLI.o];exact HNE.o
 ·rw [HBE.o.block gc (lO HC.o)];exact HC.o
 ·rw [hG];exact (HBX.o.trans HO24.o.1).trans (HBE.o.mono (by omega))
end Go.Proofs.YtdpdjpkmndnaaaaGreat
