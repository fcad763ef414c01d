import Derived.Test.YtdpdjpkmndnaaaaGreatYc75
set_option maxRecDepth 100000
set_option maxHeartbeats 16000000
set_option linter.unusedVariables false
namespace Go.Proofs.YtdpdjpkmndnaaaaGreat
open Go.RowKit _root_.Go.Proofs.Tryz
variable {B N c cc cl d db g hc i j lc ls n p q te xc xl:Nat} {T:List Tbl} {W w w' w0:World} {a ca xa:Option Addr} {cs:List Ch} {hi lo x:Val} {nm:ByteArray} {r:List Val} {rest:List Nat} {s:Sch} {v:Value}
def scanC (cs:List Ch) (i c:Nat) (lo hi:Val) (limit:Nat):List Ch:=rngC cs 1 ((i::c::lo.bytes).take 60) (endK i c hi) limit
def rowOf (c:Ch):List Val:=(drow c.val).getD []
theorem take60c (i c:Nat) (A:List Nat):(i::c::A).take 60=i::c::A.take 58:=rfl
section
variable {cs:List Ch} {T:List Tbl} {i:Nat} {t:Tbl}
theorem scan_in {k:List Nat} (e:k=j::d::rest) (h:inK ((i::c::lo.bytes).take 60) (endK i c hi) k=true):j=i/\d=c:=by
 subst e;rw [take60c] at h;unfold endK at h
 split at h
 ·have:=aG2.1 h;exact ⟨this.1,this.2.1⟩
 ·rw [take60c] at h;have:=aJz.1 h;exact ⟨this.1,this.2.1⟩
theorem laid_two {x:Ch} (h:x∈laidR j s r):∃ d rest,x.key=j::d::rest/\x.val=rowB r:=by
 rcases aHw h with rfl | ⟨c,_,rfl⟩
 ·exact ⟨0,_,rfl,rfl⟩
 ·exact ⟨c.1.toNat,_,rfl,rfl⟩
theorem Inv.scan_row (I:Inv cs T) (h:T[i]?=some t) {c:Nat} {lo hi:Val} {limit:Nat}:∀ x∈scanC cs i c lo hi limit,∃ r∈t.rows,x∈laidR i t.s r/\x.val=rowB r:=by
 intro x hx;unfold scanC at hx;rw [aF4] at hx;obtain ⟨h1,h2⟩:=List.mem_filter.1 (List.mem_of_mem_take hx);obtain ⟨j,u,h3,r,hr,h4⟩:=(I.l1 x).1 h1;obtain ⟨d,rest,e1,e2⟩:=laid_two h4;obtain ⟨e3,_⟩:=scan_in e1 h2;subst e3;rw [h] at h3;cases h3;exact ⟨r,hr,h4,e2⟩
theorem scanC_len {limit:Nat}:(scanC cs i c lo hi limit).length<=limit:=by
 unfold scanC;rw [aF4,List.length_take];omega
end
theorem info_vals:(prog.info? 34).map (fun i=>(i.zero,i.size,i.bytes))=some (some (.slice none 0 0),1,24):=by kernel_rfl
def zS:SEt:=(none,0,0)
theorem mrow0:(madeCells (Value.slice none 0 0).cells (0*1)).toList=(List.replicate 0 zS).flatMap fS:=by kernel_rfl
theorem mrow1:(madeCells (Value.slice none 0 0).cells (1*1)).toList=(List.replicate 1 zS).flatMap fS:=by kernel_rfl
theorem mrow2:(madeCells (Value.slice none 0 0).cells (2*1)).toList=(List.replicate 2 zS).flatMap fS:=by kernel_rfl
theorem mrow3:(madeCells (Value.slice none 0 0).cells (3*1)).toList=(List.replicate 3 zS).flatMap fS:=by kernel_rfl
theorem mrow4:(madeCells (Value.slice none 0 0).cells (4*1)).toList=(List.replicate 4 zS).flatMap fS:=by kernel_rfl
theorem made_row (h:n<=4):(madeCells (Value.slice none 0 0).cells (n*1)).toList=(List.replicate n zS).flatMap fS:=by
 have:n=0\/n=1\/n=2\/n=3\/n=4:=by omega
 rcases this with rfl | rfl | rfl | rfl | rfl
 ·exact mrow0
 ·exact mrow1
 ·exact mrow2
 ·exact mrow3
 ·exact mrow4
def RWv (w:World) (es:List SEt) (l:List (List Val)):Prop:=∀ (i:Nat) e r,es[i]?=some e->l[i]?=some r->SVK fV 3 w e.1 e.2.1 e.2.2 r
def RWn (B:Nat) (w:World) (a:Option Addr) (n c:Nat) (l:List (List Val)):Prop:=∃ es:List SEt,SVK fS 1 w a n c es/\es.length=l.length/\RWv w es l/\(∀ ad,a=some ad->B<=ad.block)/\∀ e∈es,∀ ad,e.1=some ad->B<=ad.block
def RWf (B:Nat) (w:World) (es:List SEt) (l:List (List Val)):Prop:=RWv w es l/\∀ e∈es,∀ ad,e.1=some ad->B<=ad.block
theorem RWv.later {es:List SEt} {l:List (List Val)} (h:RWv w es l) (hb:Below w.heap.size w w'):RWv w' es l:=fun i e r h1 h2=>(h i e r h1 h2).later hb
theorem RWn.mono {B':Nat} {l:List (List Val)} (h:RWn B w a n c l) (hB:B'<=B):RWn B' w a n c l:=by
 obtain ⟨es,h1,h2,h3,h4,h5⟩:=h;exact ⟨es,h1,h2,h3,(fun ad q=>nT hB (h4 ad q)),fun e he ad q=>nT hB (h5 e he ad q)⟩
theorem RWf.later {es:List SEt} {l:List (List Val)} (h:RWf B w es l) (hb:Below w.heap.size w w'):RWf B w' es l:=⟨h.1.later hb,h.2⟩
theorem own_full {l:List SEt} (h:w.ownsRow B te 1 (.slice (some ⟨g,0,none⟩) n n) n (l.flatMap fS)) (hl:l.length=n):∃ cur,w.heap[g]?=some (.cells cur te (0,0))/\∀ (z:Int) (o:Nat),cur[o]?≠some (.int .i64 z):=by
 rcases h.2 with ⟨e,_⟩ | ⟨g',cap',cur,e,h5,h6,h7,h8,h9,h10⟩
 ·cases e
 ·simp only [Value.slice.injEq,oI,Addr.mk.injEq] at e;obtain ⟨⟨rfl,_,_⟩,_,rfl⟩:=e;refine ⟨cur,h6,fun z o q=>?_⟩;have hlen:cur.toList.length=n*1:=by simpa using h9
  rw [List.take_of_length_le (by rw [hlen];exact nR _)] at h10;rw [<-Array.getElem?_toList,h10] at q;have hm:=mG q;rw [List.mem_flatMap] at hm;obtain ⟨x,_,hx⟩:=hm;simp only [fS,List.mem_cons,List.not_mem_nil,or_false] at hx;cases hx
theorem rep_set {es:List SEt} {e:SEt} (hj:es.length=j) (h:j<n):(es++List.replicate (n-j) zS).set j e=(es++[e])++List.replicate (n-(j+1)) zS:=by
 rw [List.set_append_right _ _ (by omega),hj,Nat.sub_self,show n-j=(n-(j+1))+1 by omega,List.replicate_succ,List.set_cons_zero,List.append_assoc];rfl
theorem tscan_ok [Gd] {limit:Nat} {t:Tbl} {la ha:Option Addr} {lk hk:Nat} (h:DR B p q g ls db v cs W w0 w) (I:Inv cs T) (hl:cs.length<=1000) (hti:T[i]?=some t) (hsc:SC w ca t.s.cs.length cc xa t.s.xs.length xc t.s) (hc9:c<250) (hlo:BS w la lk lc lo.bytes) (hlk:0<lk/\lk<=10000000) (hhi:BS w ha hk hc hi.bytes) (hhk:0<hk/\hk<=10000000) (hlim:1<=limit/\limit<=4) :
  Calls prog 49 #[.agg #[.pointer (some ⟨db,0,none⟩),.int .u8 (i:Int),.string t.s.nm,.slice ca t.s.cs.length cc,.slice xa t.s.xs.length xc],.int .i64 (c:Int),.iface (hT lo) (.slice la lk lc),.iface (hT hi) (.slice ha hk hc),.int .i64 (limit:Int)] w fun e w'=>(∃ a n k,e=.returned (.tuple #[.slice a n k,.int .i64 0])/\RWn w.heap.size w' a n k ((scanC cs i c lo hi limit).map rowOf))/\Below w.heap.size w w':=by
 obtain ⟨L,hL⟩:∃ L,w.heap.size=L:=⟨_,rfl⟩;obtain ⟨w1,hw1⟩:∃ w1,w1=w.alloc (.cells #[.pointer (some ⟨db,0,none⟩),.int .u8 (i:Int),.string t.s.nm,.slice ca t.s.cs.length cc,.slice xa t.s.xs.length xc] 101):=⟨_,rfl⟩;have hb1:Below w.heap.size w w1:=by rw [hw1];exact aAe w _
 have hb1d:=hb1.drew;have HT1:Hid (w1.drew.heap[L]?=some (.cells #[.pointer (some ⟨db,0,none⟩),.int .u8 (i:Int),.string t.s.nm,.slice ca t.s.cs.length cc,.slice xa t.s.xs.length xc] 101 (0,0))):=by show w1.heap[L]?=_;rw [hw1,<-hL];exact boxed w _
 have HB1:Hid (Below L w w1.drew):=by show Below L w _;rw [<-hL];exact hb1d
 have HLO1:=aAb (hlo.later hb1d (nR _));have HHI1:=aAb (hhi.later hb1d (nR _));have HD:=aAb h;have HI:=aAb I;have HLN:=aAb hl;have HTI:=aAb hti;have HSC:=aAb hsc;have HOK:=aAb (I.ok t (at_mem hti));have hi4:i<256:=by have:=(lL hti);have:=I.len;omega
 have HI4:=aAb hi4;have HC9:=aAb hc9;have HKS:=aAb (And.intro hlk hhk);have HLI:=aAb hlim;obtain ⟨F,hF⟩:∃ F,scanC cs i c lo hi limit=F:=⟨_,rfl⟩;obtain ⟨n,hn⟩:∃ n,F.length=n:=⟨_,rfl⟩;have HF:=aAb hF;have HFN:=aAb hn;have HN4:Hid (n<=4):=by show n<=4;rw [<-hn,<-hF];exact nT scanC_len hlim.2
 have HRW:Hid (∀ x∈F,∃ r∈t.rows,x.val=rowB r):=by
  intro x hx;rw [<-hF] at hx;obtain ⟨r,h1,_,h2⟩:=I.scan_row hti x hx;exact ⟨r,h1,h2⟩
 obtain ⟨KL,hmL,hcL,hkL⟩:=aJ0 lo la lk lc;have HKL:=aAb hkL;have HW1:=aAb hw1;have HLL:=aAb hL;rw [hL,hF];clear h I hl hti hsc hc9 hlo hlk hhi hhk hb1 hb1d hw1 hi4 hF hn hkL hlim;generalize hT lo=tlo at *
 go_enter func49,ntmps49;go_upto_region 1 with fail;rw [<-HW1.o]
 try simp only [hL]
 clear HW1;have HX0:Hid ((fun wx:World=>wx.cell? ⟨L,0,none⟩=some (.pointer (some ⟨db,0,none⟩))/\wx.cell? ⟨L,1,none⟩=some (.int .u8 (i:Int))/\wx.cell? ⟨L,2,none⟩=some (.string t.s.nm)/\wx.cell? ⟨L,3,none⟩=some (.slice ca t.s.cs.length cc)/\wx.cell? ⟨L,4,none⟩=some (.slice xa t.s.xs.length xc)) w1.drew):=⟨aAa HT1.o,aAa HT1.o,aAa HT1.o,aAa HT1.o,aAa HT1.o⟩;refine wp_region_noPanic ?_;refine wp_region_held_drew (S:=fun wx=>wx.cell? ⟨L,0,none⟩=some (.pointer (some ⟨db,0,none⟩))/\wx.cell? ⟨L,1,none⟩=some (.int .u8 (i:Int))/\wx.cell? ⟨L,2,none⟩=some (.string t.s.nm)/\wx.cell? ⟨L,3,none⟩=some (.slice ca t.s.cs.length cc)/\wx.cell? ⟨L,4,none⟩=some (.slice xa t.s.xs.length xc)) (by kernel_rfl) HX0.o (fun hHeld=>?_);generalize w1.drew=w1 at *
 refine kT 0 20 ?_;refine kT 1 21 ?_;refine kT 2 22 ?_;refine kT 3 23 ?_;refine kT 4 24 ?_;refine kT 8 28 ?_;refine kT 9 29 ?_;refine kT 10 30 ?_;refine kT 12 32 ?_;refine kC 5 ?_;intro K hK;go_simp;refine (HKL.o w1).mono ?_;rintro e w9 ⟨rfl,hw⟩;have hw:=hw.symm;subst hw;clear hHeld hw;refine hK.out _ _ ⟨aAa HT1.o,aAa HT1.o,aAa HT1.o,aAa HT1.o,aAa HT1.o⟩ (fun hHeld=>?_);clear hK K
 try simp only [Act.put,siT,scZ,scS]
 refine kC 6 ?_;intro K hK;go_simp;have hbx:=aAe w1 (.cells #[.slice la lk lc] 97);have HT2:=aAb ((hbx.block L (aAd HT1.o)).trans HT1.o);have HB2:Hid (Below L w (w1.alloc (.cells #[.slice la lk lc] 97))):=HB1.o.trans (hbx.mono (Nat.le_of_lt (aAd HT1.o)));have HLO2:=aAb (HLO1.o.later hbx (nR _));have HHI2:=aAb (HHI1.o.later hbx (nR _));have HPP2:Hid ((w1.alloc (.cells #[.slice la lk lc] 97)).cell? ⟨w1.heap.size,0,none⟩=some (.slice la lk lc)):=aD8 _;clear hbx hHeld;refine hK.out _ _ ⟨aAa HT2.o,aAa HT2.o,aAa HT2.o,aAa HT2.o,aAa HT2.o⟩ (fun hHeld=>?_);generalize w1.alloc (.cells #[.slice la lk lc] 97)=w2 at *
 generalize w1.heap.size=gp at *
 clear hK K
 try simp only [Act.put,siT,scZ,scS]
 refine kC 7 ?_;intro K hK;go_simp;refine (aEg (num:=i) (col:=c) HI4.o (by have:=HC9.o;omega) HLO2.o.hlen HKS.o.1.2 HKS.o.1.1 HLO2.o.hbyte (fun ww hb=>join_one _ ((hb.cell (aAm HPP2.o)).trans HPP2.o) (HLO2.o.later hb (nR _)) HKS.o.1.1)).mono ?_;rintro e w3 ⟨k1a,k1c,rfl,hbs,hub,hb3⟩;have HT3:=aAb ((hb3.block L (aAd HT2.o)).trans HT2.o);have HB3:Hid (Below L w w3):=HB2.o.trans (hb3.mono (Nat.le_of_lt (aAd HT2.o)));have HHI3:=aAb (HHI2.o.later hb3 (nR _));have HK13:=aAb (And.intro hbs hub);clear hbs hub hb3 hHeld;refine hK.out _ _ ⟨aAa HT3.o,aAa HT3.o,aAa HT3.o,aAa HT3.o,aAa HT3.o⟩ (fun hHeld=>?_);clear hK K
 try simp only [Act.put,siT,scZ,scS]
 refine kC 11 ?_;intro K hK;go_simp;refine (tend_ok (num:=i) (c:=c) HI4.o HC9.o HHI3.o HKS.o.2.1 HKS.o.2.2).mono ?_;rintro e w4 ⟨k2a,k2k,k2c,rfl,hk60,hbs,hub,hb4⟩;have HT4:=aAb ((hb4.block L (aAd HT3.o)).trans HT3.o);have HB4:Hid (Below L w w4):=HB3.o.trans (hb4.mono (Nat.le_of_lt (aAd HT3.o)));have HK14:=aAb (And.intro (HK13.o.1.later hb4 (nR _)) (HK13.o.2.later hb4));have HK24:=aAb (And.intro hbs hub);have HK60:=aAb hk60;clear hbs hub hb4 hk60 hHeld;refine hK.out _ _ ⟨aAa HT4.o,aAa HT4.o,aAa HT4.o,aAa HT4.o,aAa HT4.o⟩ (fun hHeld=>?_);clear hK K
 try simp only [Act.put,siT,scZ,scS]
 refine kC 13 ?_;intro K hK;go_simp;have HDR:=aAb (HD.o.later (w':=w4) (by rw [HLL.o];exact HB4.o));have hrg:=aBl (sp:=1) (most:=limit) HDR.o.now HDR.o.dd HLN.o (by omega) (aB5 HK14.o.1 HK14.o.2) (aB5 HK24.o.1 HK24.o.2) (by omega) HK60.o (by have:=HLI.o.2;omega) HLI.o.1;refine hrg.mono ?_;rintro e w5 ⟨v5,rfl,hps,hb5⟩;rw [show rngC cs ((1:Nat):Int) ((i::c::lo.bytes).take 60) (endK i c hi) limit=scanC cs i c lo hi limit from rfl,HF.o] at hps;obtain ⟨pa,pc,e5⟩:=hps.form;rw [HFN.o] at e5;subst e5;have HT5:=aAb ((hb5.block L (aAd HT4.o)).trans HT4.o);have HB5:Hid (Below L w w5):=HB4.o.trans (hb5.mono (Nat.le_of_lt (aAd HT4.o)));have HPS:=aAb (hps0 hps);clear hrg hps hb5 hHeld HDR;refine hK.out _ _ ⟨aAa HT5.o,aAa HT5.o,aAa HT5.o,aAa HT5.o,aAa HT5.o⟩ (fun hHeld=>?_);clear hK K
 try simp only [Act.put,siT,scZ,scS]
 refine kT 14 19 ?_;refine kT 15 34 ?_;refine kT 16 35 ?_;refine kT 17 12 ?_;refine kT 18 13 ?_;refine wpAnyH_done (by kernel_rfl) ?_ _;refine NoPanic.normal ?_;clear hHeld;have HSC5:Hid (SC w5 ca t.s.cs.length cc xa t.s.xs.length xc t.s):=HSC.o.later (by rw [HLL.o];exact HB5.o);have HBW:Hid (B<=L):=by show B<=L;rw [<-HLL.o];exact HD.o.bw
 have HLG:Hid (L<w5.heap.size):=aAd HT5.o;obtain ⟨i0,hi0,hz0,hz1',hz2⟩:=info_parts info_vals;have hn4:n<=4:=HN4.o;go_upto_region 5 with (refine wpList_make_full w5 rfl _ _ 52 rfl w5.heap.size 34 i0 (.slice none 0 0) 1 underlying52 hi0 hz0 hz1' .i64 .i64 (n:Int) (n:Int) n rfl rfl rfl rfl (by rw [hz2];omega) (by unfold maxLen;omega) (nR _) ?_;intro w6 ho6 hg6;rw [made_row hn4] at ho6;have HO6:=aAb ho6;have HG6:Hid (Below w5.heap.size w5 w6):=(Below.refl _ _).grown hg6 (nR _) (fun _ q=>nomatch q);clear ho6 hg6);have HT6:=aAb ((HG6.o.block L (aAd HT5.o)).trans HT5.o);have HB6:Hid (Below L w w6):=HB5.o.trans (HG6.o.mono (Nat.le_of_lt (aAd HT5.o)));have HPS6:=aAb (HPS.o.later HG6.o (by have:=HBW.o;have:=HLG.o;omega));clear hi0 hz0 hz1' hz2 HG6 HPS HT5 HB5 HSC5;generalize w5.heap.size=g2 at *
 go_wp2_with fail;go_loopg [44] n (fun gh s44 wx=>∃ j:Nat,j+gh=n/\s44=.int .i64 (j:Int)/\∃ es:List SEt,es.length=j/\wx.ownsRow g2 34 1 (.slice (some ⟨g2,0,none⟩) n n) n ((es++List.replicate (n-j) zS).flatMap fS)/\RWf L wx es (F.map rowOf)/\PSW B 0 wx (.slice pa n pc) F/\wx.heap[L]?=some (.cells #[.pointer (some ⟨db,0,none⟩),.int .u8 (i:Int),.string t.s.nm,.slice ca t.s.cs.length cc,.slice xa t.s.xs.length xc] 101 (0,0))/\Below L w wx)
 case atStart=>exact ⟨0,by omega,rfl,[],rfl,HO6.o,⟨(fun q e r h1=>by simp at h1),fun e he=>by cases he⟩,HPS6.o,HT6.o,HB6.o⟩
 case round =>
  obtain ⟨j,hj,rfl,es,hes,ho1,hrw,hps,htb,hbe⟩:=hrel;have HES:=aAb hes;have HO1:=aAb ho1;have HRV:=aAb hrw;have HPS:=aAb hps;have HTB:=aAb htb;have HBE:=aAb hbe;clear hes ho1 hrw hps htb hbe HO6 HPS6 HT6 HB6;by_cases hjn:j<n
  ·have xj:(j:Int)<(n:Int):=by omega
   have xj0:(0:Int)<=(j:Int):=by omega
   have x6:(n:Int)<=9223372036854775807:=by omega
   obtain ⟨ch,hch⟩:∃ c,F[j]?=some c:=⟨_,gE (by rw [HFN.o];exact hjn)⟩;obtain ⟨r,hrm,hrv⟩:=HRW.o ch (mG hch);have HRO:=aAb (HI.o.row t (at_mem HTI.o) r hrm);have HLR:Hid ((F.map rowOf)[j]?=some r):=by
    show _=_;rw [List.getElem?_map,hch];show some (rowOf ch)=some r;unfold rowOf;rw [hrv,drow_rowB HRO.o.rE HRO.o.ok];rfl
   obtain ⟨g9,k9,x9,e9,hev,hcell⟩:=HPS.o.at f3_len hch;obtain ⟨xc9,xk9,xv9⟩:=x9;obtain ⟨ex9,⟨ka,kc,e3,_⟩,⟨va,vc,e4,hbv⟩⟩:=hev;dsimp only at ex9 e3 e4;subst ex9;simp only [Value.slice.injEq] at e9;obtain ⟨rfl,zz9,rfl⟩:=e9;clear zz9;have c0:wr.cell? ⟨g9,j*3,none⟩=some (.int .i64 xc9.sp):=hcell 0 (by omega);have c1:wr.cell? ⟨g9,j*3+1,none⟩=some xk9:=hcell 1 (by omega);have c2:wr.cell? ⟨g9,j*3+2,none⟩=some xv9:=hcell 2 (by omega);subst e3 e4;have hcap:n<=pc:=by
    obtain ⟨kv,_,⟨_,ho⟩,_⟩:=HPS.o;rcases ho with ⟨e,h0⟩ | ⟨g',cap',cur',e,_,_,h7,_⟩
    ·rw [HFN.o] at h0;omega
    ·simp only [Value.slice.injEq] at e;have:=HFN.o;omega
   have hBr:B<=wr.heap.size:=nT HBW.o (Nat.le_of_lt (aAd HTB.o));have hbx:=aAe wr (.cells #[.int .i64 xc9.sp,.slice ka xc9.key.length kc,.slice va xc9.val.length vc] 99);have HO2:=aAb (aAk HO1.o hbx);have HRV2:=aAb (HRV.o.later hbx);have HPS2:=aAb (HPS.o.later hbx hBr);have HTB2:=aAb ((hbx.block L (aAd HTB.o)).trans HTB.o);have HBE2:Hid (Below L w (wr.alloc (.cells #[.int .i64 xc9.sp,.slice ka xc9.key.length kc,.slice va xc9.val.length vc] 99))):=HBE.o.trans (hbx.mono (Nat.le_of_lt (aAd HTB.o)));have HR3:Hid ((wr.alloc (.cells #[.int .i64 xc9.sp,.slice ka xc9.key.length kc,.slice va xc9.val.length vc] 99)).heap[wr.heap.size]?=some (.cells #[.int .i64 xc9.sp,.slice ka xc9.key.length kc,.slice va xc9.val.length vc] 99 (0,0))):=boxed wr _;have hbv2:=(hbv.later hbx hBr).1;rw [hrv] at hbv2;have HBV2:Hid (BS (wr.alloc (.cells #[.int .i64 xc9.sp,.slice ka xc9.key.length kc,.slice va xc9.val.length vc] 99)) va xc9.val.length vc (rowB r)):=by
    show BS _ _ _ _ _;rw [hrv];exact hbv2
   clear hcell hbx hbv hbv2 hch hrm hrv;go_upto_region 8 with fail;clear c0 c1 c2;generalize wr.alloc (.cells #[.int .i64 xc9.sp,.slice ka xc9.key.length kc,.slice va xc9.val.length vc] 99)=w7 at *
   generalize wr.heap.size=G at *
   have z2:w7.cell? ⟨G,2,none⟩=some (.slice va xc9.val.length vc):=aAa HR3.o;have y0:w7.cell? ⟨L,0,none⟩=some (.pointer (some ⟨db,0,none⟩)):=aAa HTB2.o;have y1:w7.cell? ⟨L,1,none⟩=some (.int .u8 (i:Int)):=aAa HTB2.o;have y2:w7.cell? ⟨L,2,none⟩=some (.string t.s.nm):=aAa HTB2.o;have y3:w7.cell? ⟨L,3,none⟩=some (.slice ca t.s.cs.length cc):=aAa HTB2.o;have y4:w7.cell? ⟨L,4,none⟩=some (.slice xa t.s.xs.length xc):=aAa HTB2.o;have HRD:=aAb (tread_new (dv:=.pointer (some ⟨db,0,none⟩)) (num:=i) (HSC.o.later (by rw [HLL.o];exact HBE2.o)) HOK.o HRO.o HBV2.o);go_wp2_with fail;refine HRD.o.mono ?_;rintro e w8 ⟨ra,rc,sa,sc,rfl,hrh,hb8,hfr8⟩;have HFR8:Hid (∀ ad,ra=some ad->L<=ad.block):=fun ad q=>nT (Nat.le_of_lt (aAd HTB2.o)) (hfr8 ad q)
   clear hfr8;have hbq:=aAe w8 (.cells #[.slice ra r.length rc,.slice sa r.length sc] 119);have hb89:=hb8.trans (hbq.mono hb8.size);have HO9:=aAb (aAk HO2.o hb89);have HRV9:=aAb (HRV2.o.later hb89);have HPS9:=aAb (HPS2.o.later hb89 (nT HBW.o (Nat.le_of_lt (aAd HTB2.o))));have HTB9:=aAb ((hb89.block L (aAd HTB2.o)).trans HTB2.o);have HBE9:Hid (Below L w (w8.alloc (.cells #[.slice ra r.length rc,.slice sa r.length sc] 119))):=HBE2.o.trans (hb89.mono (Nat.le_of_lt (aAd HTB2.o)));have HSV9:=aAb ((hrh.later hbq).p);have HQ9:Hid ((w8.alloc (.cells #[.slice ra r.length rc,.slice sa r.length sc] 119)).heap[w8.heap.size]?=some (.cells #[.slice ra r.length rc,.slice sa r.length sc] 119 (0,0))):=boxed w8 _;clear hrh hb8 hbq hb89 HRD z2 y0 y1 y2 y3 y4;go_upto_region 9 with fail;generalize w8.alloc (.cells #[.slice ra r.length rc,.slice sa r.length sc] 119)=w9 at *
   generalize w8.heap.size=Q at *
   have u0:w9.cell? ⟨Q,0,none⟩=some (.slice ra r.length rc):=aAa HQ9.o;have hlt:(es++List.replicate (n-j) zS).length=n:=by rw [lA,List.length_replicate,HES.o];omega
   have HLT:=aAb hlt;have haz:(es++List.replicate (n-j) zS)[j]?=some zS:=by
    rw [List.getElem?_append_right (by rw [HES.o];exact nR _),HES.o,Nat.sub_self,show n-j=(n-j-1)+1 by omega,List.replicate_succ];rfl
   have HAZ:=aAb haz;obtain ⟨cur,hcur,hcell⟩:=aCc aH6 HO9.o haz;have d0:w9.cell? ⟨g2,j,none⟩=some (.slice none 0 0):=by have h9:=hcell 0 (by omega);rw [Nat.mul_one,Nat.add_zero] at h9;exact h9
   have f0:w9.frozen? ⟨g2,j,none⟩=false:=aAg hcur;clear hcell hcur hlt haz;go_wp2;go_roundg (gk-1)
   case measure=>omega
   case rel =>
    obtain ⟨cur,hcur,hno⟩:=own_full HO9.o HLT.o;have hst:=aB4 (u:=.slice ra r.length rc) (i:=j) HO9.o (by omega);have e5:=aCe (f:=fS) (k:=1) (j:=0) (u:=.slice ra r.length rc) (x':=((ra,r.length,rc):SEt)) aH6 (by omega) HAZ.o rfl;rw [Nat.mul_one,Nat.add_zero] at e5;rw [e5,rep_set HES.o hjn] at hst;have hoth:∀ b,b≠g2->(w9.setCell ⟨g2,j,none⟩ (.slice ra r.length rc)).heap[b]?=w9.heap[b]?:=fun b hb=>heap_setCell_other _ _ _ _ hb
    have hbs:Below 0 w9 (w9.setCell ⟨g2,j,none⟩ (.slice ra r.length rc)):=(Below.refl 0 w9).setCell (p:=⟨g2,j,none⟩) (Nat.zero_le _) _;have hsv:∀ {a:Option Addr} {m k:Nat} {l:List Val},SVK fV 3 w9 a m k l->SVK fV 3 (w9.setCell ⟨g2,j,none⟩ (.slice ra r.length rc)) a m k l:=fun hs=>hs.oth (by omega) hcur (fun x u hu o=>by simp only [fV,List.getElem?_cons_zero,oI] at hu;subst hu;exact hno _ o) (fun x=>⟨_,rfl⟩) hbs.size hoth
    refine ⟨j+1,by omega,rfl,es++[(ra,r.length,rc)],by rw [lA,HES.o];rfl,hst,⟨fun q e r' h1 h2=>?_,fun e he ad hq=>?_⟩,?_,?_,HBE9.o.setCell (p:=⟨g2,j,none⟩) (Nat.le_of_lt HLG.o) _⟩
    ·by_cases hq:q<es.length
     ·rw [List.getElem?_append_left hq] at h1;exact hsv (HRV9.o.1 q e r' h1 h2)
     ·have hq2:q=j:=by
       have h7:=(lL h1);simp only [lA,List.length_cons,List.length_nil] at h7;have:=HES.o;omega
      subst hq2;rw [List.getElem?_append_right (by rw [HES.o];exact nR _),HES.o,Nat.sub_self] at h1;simp only [List.getElem?_cons_zero,oI] at h1;subst h1;rw [HLR.o,oI] at h2;subst h2;exact hsv HSV9.o
    ·rcases List.mem_append.1 he with he | he
     ·exact HRV9.o.2 e he ad hq
     ·obtain rfl:e=(ra,r.length,rc):=List.mem_singleton.1 he;exact HFR8.o ad hq
    ·refine HPS9.o.keep (FT.set hcur (by have:=HBW.o;have:=HLG.o;omega) (by decide)) fun q hq=>heap_setCell_other _ _ _ _ ?_
     intro e;obtain ⟨_,_,cur2,h8⟩:=HPS9.o.blk hq;rw [show q=g2 from e,hcur] at h8;simp only [oI,cI] at h8;exact absurd h8.2.1 (by decide)
    ·exact (hoth L (by have:=HLG.o;omega)).trans HTB9.o
  ·have ej:j=n:=by omega
   subst ej;have xj:¬ (j:Int)<(j:Int):=by omega
   go_wp2;go_ret2;have h9:=HO1.o;rw [Nat.sub_self,List.replicate_zero,List.append_nil] at h9;obtain ⟨a9,c9,e9,hsv⟩:=aA4 aH6 h9 HES.o;simp only [Value.slice.injEq] at e9;obtain ⟨rfl,_,rfl⟩:=e9;exact ⟨⟨_,_,_,rfl,es,hsv,by rw [HES.o,List.length_map];exact HFN.o.symm,HRV.o.1,(fun ad q=>by cases q;exact Nat.le_of_lt HLG.o),HRV.o.2⟩,HBE.o⟩
def scanO (cs:List Ch) (T:List Tbl) (nm:ByteArray) (c:Int) (lo hi:Val) (limit:Int):List (List Val)×Int:=match tAt T nm with
 | none=>([],60)
 | some i=>match T[i]? with
  | none=>([],60)
  | some t=>if ordB t.s c=false then ([],65) else if lo.err≠0\/hi.err≠0 then ([],62) else if limit<1\/4<limit then ([],1) else ((scanC cs i c.toNat lo hi limit.toNat).map rowOf,0)
theorem scanO_none {c limit:Int} (h1:tAt T nm=none):scanO cs T nm c lo hi limit=([],60):=by unfold scanO;rw [h1]
theorem scanO_some {c limit:Int} {t:Tbl} (h1:tAt T nm=some i) (h2:T[i]?=some t):scanO cs T nm c lo hi limit=if ordB t.s c=false then ([],65) else if lo.err≠0\/hi.err≠0 then ([],62) else if limit<1\/4<limit then ([],1) else ((scanC cs i c.toNat lo hi limit.toNat).map rowOf,0):=by
 unfold scanO;rw [h1];dsimp only;rw [h2]
theorem ord_col {c:Int} (hs:s.ok=true) (h:ordB s c=true):0<=c/\c<=3:=by
 unfold ordB at h;rw [Bool.or_eq_true,List.any_eq_true] at h;rcases h with h | ⟨x,hx,h⟩
 ·have:=(beq_iff_eq).1 h;omega
 ·have h1:=(beq_iff_eq).1 h;have h2:=Sch.xcol hs x hx;have h3:=(Sch.c3 hs).2;omega
theorem tscanP_ok [Gd] {c limit:Int} (h:DR B p q g ls db v cs W w0 w) (I:Inv cs T) (hl:cs.length<=1000) (nm:ByteArray) (hlo:lo.ok/\lo.2.2.size<=1048576) (hhi:hi.ok/\hi.2.2.size<=1048576) :
  Calls prog 21 #[.pointer (some ⟨db,0,none⟩),.string nm,.int .i64 c,.agg #[.int .i64 lo.1,.int .i64 lo.2.1,.string lo.2.2],.agg #[.int .i64 hi.1,.int .i64 hi.2.1,.string hi.2.2],.int .i64 limit] w fun e w'=>(∃ a n k,e=.returned (.tuple #[.slice a n k,.int .i64 (scanO cs T nm c lo hi limit).2])/\RWn w.heap.size w' a n k (scanO cs T nm c lo hi limit).1)/\Below w.heap.size w w':=by
 obtain ⟨L,hL⟩:∃ L,w.heap.size=L:=⟨_,rfl⟩;obtain ⟨M,hM⟩:∃ M,L+1=M:=⟨_,rfl⟩;obtain ⟨w1,hw1⟩:∃ w1,w1=(w.alloc (.cells #[.int .i64 lo.1,.int .i64 lo.2.1,.string lo.2.2] 36)).alloc (.cells #[.int .i64 hi.1,.int .i64 hi.2.1,.string hi.2.2] 36):=⟨_,rfl⟩;have hb1:Below w.heap.size w w1:=by rw [hw1];exact aCa _ _ _
 have HL1:Hid (w1.heap[L]?=some (.cells #[.int .i64 lo.1,.int .i64 lo.2.1,.string lo.2.2] 36 (0,0))):=by show _=_;rw [hw1,<-hL];exact heap_alloc2_old w _ _
 have HM1:Hid (w1.heap[M]?=some (.cells #[.int .i64 hi.1,.int .i64 hi.2.1,.string hi.2.2] 36 (0,0))):=by show _=_;rw [hw1,<-hM,<-hL];exact heap_alloc2_new w _ _
 have HB1:Hid (Below L w w1):=by show Below L w w1;rw [<-hL];exact hb1
 have HD:=aAb h;have HI:=aAb I;have HLN:=aAb hl;have HLO:=aAb hlo;have HHI:=aAb hhi;have HFI:=aAb (aEy (h.later hb1) I hl nm);have HW1:=aAb hw1;have HLL:=aAb hL;obtain ⟨so,hso⟩:∃ so,scanO cs T nm c lo hi limit=so:=⟨_,rfl⟩;have HSO:=aAb hso;rw [hL,hso];clear h I hl hlo hhi hb1 hw1 hso;go_enter func21,ntmps21;go_upto_region 1 with fail;rw [<-HW1.o]
 try simp only [hL,hM]
 clear HW1;go_wp2_with fail;refine HFI.o.mono ?_;rintro e w2 ⟨hfi,hb2⟩;have HL2:=aAb ((hb2.block L (aAd HL1.o)).trans HL1.o);have HM2:=aAb ((hb2.block M (aAd HM1.o)).trans HM1.o);have HB2:Hid (Below L w w2):=HB1.o.trans (hb2.mono (Nat.le_of_lt (aAd HL1.o)));clear hb2 HFI HL1 HM1 HB1
 cases hta:tAt T nm with
 | none =>
  have he:=hfi.1 hta;subst he;have HTA:=aAb hta;have HB3:Hid (Below L w (w2.alloc (.cells #[.pointer none,.int .u8 0,.string ⟨#[]⟩,.slice none 0 0,.slice none 0 0] 101))):=HB2.o.trans ((aAe w2 _).mono (Nat.le_of_lt (aAd HL2.o)));clear hfi hta;go_upto_region 2 with fail;generalize w2.alloc (.cells #[.pointer none,.int .u8 0,.string ⟨#[]⟩,.slice none 0 0,.slice none 0 0] 101)=w3 at *
  go_wp2;go_ret2;rw [<-HSO.o,scanO_none HTA.o];exact ⟨⟨none,0,0,rfl,[],SVK.nil _ _ _,rfl,(fun q e r q1=>by simp at q1),(fun _ q=>by cases q),fun e he=>by cases he⟩,HB3.o⟩
 | some i =>
  obtain ⟨t,hti,htn,htm⟩:=aAv hta;subst htn;obtain ⟨ca,cc,xa,xc,he,hsc⟩:=hfi.2 i t hta hti;unfold tblV at he;subst he;have HSE:=aAb (scanO_some (cs:=cs) (c:=c) (limit:=limit) (lo:=lo) (hi:=hi) hta hti);have HTI:=aAb hti;have HOK:=aAb (HI.o.ok t htm);have hbx:=aAe w2 (.cells #[.pointer (some ⟨db,0,none⟩),.int .u8 (i:Int),.string t.s.nm,.slice ca t.s.cs.length cc,.slice xa t.s.xs.length xc] 101);have HV3:Hid ((w2.alloc (.cells #[.pointer (some ⟨db,0,none⟩),.int .u8 (i:Int),.string t.s.nm,.slice ca t.s.cs.length cc,.slice xa t.s.xs.length xc] 101)).heap[w2.heap.size]?=some (.cells #[.pointer (some ⟨db,0,none⟩),.int .u8 (i:Int),.string t.s.nm,.slice ca t.s.cs.length cc,.slice xa t.s.xs.length xc] 101 (0,0))):=boxed w2 _;have HL3:=aAb ((hbx.block L (aAd HL2.o)).trans HL2.o);have HM3:=aAb ((hbx.block M (aAd HM2.o)).trans HM2.o);have HB3:Hid (Below L w (w2.alloc (.cells #[.pointer (some ⟨db,0,none⟩),.int .u8 (i:Int),.string t.s.nm,.slice ca t.s.cs.length cc,.slice xa t.s.xs.length xc] 101))):=HB2.o.trans (hbx.mono (Nat.le_of_lt (aAd HL2.o)));have HSC3:=aAb (hsc.later hbx);clear hfi hta hti htm hsc hbx HL2 HM2 HB2;go_upto_region 2 with fail;generalize (w2.alloc (.cells #[.pointer (some ⟨db,0,none⟩),.int .u8 (i:Int),.string t.s.nm,.slice ca t.s.cs.length cc,.slice xa t.s.xs.length xc] 101))=w3 at *
  generalize w2.heap.size=V at *
  have HHO:=aAb (hasOrder_ok (dv:=.pointer (some ⟨db,0,none⟩)) (num:=i) (nm:=t.s.nm) (ca:=ca) (cl:=t.s.cs.length) (cc:=cc) (c:=c) HSC3.o.x (by have:=(Sch.parts HOK.o).2.2.1;omega));obtain ⟨ob,hob⟩:∃ ob,ordB t.s c=ob:=⟨_,rfl⟩;have HOB:=aAb hob;rw [hob] at HHO;clear hob;have y0:w3.cell? ⟨V,0,none⟩=some (.pointer (some ⟨db,0,none⟩)):=aAa HV3.o;have y1:w3.cell? ⟨V,1,none⟩=some (.int .u8 (i:Int)):=aAa HV3.o;have y2:w3.cell? ⟨V,2,none⟩=some (.string t.s.nm):=aAa HV3.o;have y3:w3.cell? ⟨V,3,none⟩=some (.slice ca t.s.cs.length cc):=aAa HV3.o;have y4:w3.cell? ⟨V,4,none⟩=some (.slice xa t.s.xs.length xc):=aAa HV3.o;go_wp2_with fail;refine HHO.o.mono ?_;rintro e w4 ⟨rfl,hb4⟩;have HL4:=aAb ((hb4.block L (aAd HL3.o)).trans HL3.o);have HM4:=aAb ((hb4.block M (aAd HM3.o)).trans HM3.o);have HB4:Hid (Below L w w4):=HB3.o.trans (hb4.mono (Nat.le_of_lt (aAd HL3.o)));have HV4:=aAb ((hb4.block V (aAd HV3.o)).trans HV3.o);have HSC4:=aAb (HSC3.o.later hb4);clear hb4 HHO y0 y1 y2 y3 y4 HV3 HL3 HM3 HB3 HSC3
  cases ob with
  | false =>
   have HE:=aAb (HSE.o.trans (if_pos HOB.o));go_wp2;go_ret2;rw [<-HSO.o,HE.o];exact ⟨⟨none,0,0,rfl,[],SVK.nil _ _ _,rfl,(fun q e r q1=>by simp at q1),(fun _ q=>by cases q),fun e he=>by cases he⟩,HB4.o⟩
  | true =>
   have HE1:=aAb (HSE.o.trans (if_neg (by rw [HOB.o];decide)));have HRL:=aAb (aE7 lo.1 lo.2.1 lo.2.2 w4 HLO.o.2);unfold av at HRL;obtain ⟨fl,hfl⟩:∃ fl,rightOf lo.1 lo.2.1 lo.2.2=fl:=⟨_,rfl⟩;rw [hfl] at HRL;have HFL:Hid (lo.err=fl):=hfl;clear hfl;have l0:w4.cell? ⟨L,0,none⟩=some (.int .i64 lo.1):=aAa HL4.o;have l1:w4.cell? ⟨L,1,none⟩=some (.int .i64 lo.2.1):=aAa HL4.o;have l2:w4.cell? ⟨L,2,none⟩=some (.string lo.2.2):=aAa HL4.o;go_wp2_with fail;refine HRL.o.mono ?_;rintro e w5 ⟨rfl,hb5⟩;have HL5:=aAb ((hb5.block L (aAd HL4.o)).trans HL4.o);have HM5:=aAb ((hb5.block M (aAd HM4.o)).trans HM4.o);have HB5:Hid (Below L w w5):=HB4.o.trans (hb5.mono (Nat.le_of_lt (aAd HL4.o)));have HV5:=aAb ((hb5.block V (aAd HV4.o)).trans HV4.o);have HSC5:=aAb (HSC4.o.later hb5);clear hb5 HRL l0 l1 l2 HV4 HL4 HM4 HB4 HSC4;by_cases hl0:fl=0
   ·subst hl0;have HRH:=aAb (aE7 hi.1 hi.2.1 hi.2.2 w5 HHI.o.2);unfold av at HRH;obtain ⟨fh,hfh⟩:∃ fh,rightOf hi.1 hi.2.1 hi.2.2=fh:=⟨_,rfl⟩;rw [hfh] at HRH;have HFH:Hid (hi.err=fh):=hfh;clear hfh;have m0:w5.cell? ⟨M,0,none⟩=some (.int .i64 hi.1):=aAa HM5.o;have m1:w5.cell? ⟨M,1,none⟩=some (.int .i64 hi.2.1):=aAa HM5.o;have m2:w5.cell? ⟨M,2,none⟩=some (.string hi.2.2):=aAa HM5.o;go_wp2_with fail;refine HRH.o.mono ?_;rintro e w6 ⟨rfl,hb6⟩;have HL6:=aAb ((hb6.block L (aAd HL5.o)).trans HL5.o);have HM6:=aAb ((hb6.block M (aAd HM5.o)).trans HM5.o);have HB6:Hid (Below L w w6):=HB5.o.trans (hb6.mono (Nat.le_of_lt (aAd HL5.o)));have HV6:=aAb ((hb6.block V (aAd HV5.o)).trans HV5.o);have HSC6:=aAb (HSC5.o.later hb6);clear hb6 HRH m0 m1 m2 HV5 HL5 HM5 HB5 HSC5;by_cases hh0:fh=0
    ·subst hh0;have HE2:=aAb (HE1.o.trans (if_neg (by rw [HFL.o,HFH.o];simp)));by_cases hli:limit<1\/4<limit
     ·have HE:=aAb (HE2.o.trans (if_pos hli));by_cases hl1:limit<1
      ·have d1:decide (limit<1)=true:=decide_eq_true hl1;clear hli;go_wp2;go_ret2;rw [<-HSO.o,HE.o];exact ⟨⟨none,0,0,rfl,[],SVK.nil _ _ _,rfl,(fun q e r q1=>by simp at q1),(fun _ q=>by cases q),fun e he=>by cases he⟩,HB6.o⟩
      ·have hl4:4<limit:=hli.resolve_left hl1;have d1:decide (limit<1)=false:=decide_eq_false hl1;have d2:decide (4<limit)=true:=decide_eq_true hl4;clear hli;go_wp2;go_ret2;rw [<-HSO.o,HE.o];exact ⟨⟨none,0,0,rfl,[],SVK.nil _ _ _,rfl,(fun q e r q1=>by simp at q1),(fun _ q=>by cases q),fun e he=>by cases he⟩,HB6.o⟩
     ·have HE:=aAb (HE2.o.trans (if_neg hli));obtain ⟨ln,hln⟩:∃ ln:Nat,limit=(ln:Int):=⟨limit.toNat,by omega⟩;subst hln;obtain ⟨cn,hcn⟩:∃ cn:Nat,c=(cn:Int):=⟨c.toNat,by have:=ord_col HOK.o HOB.o;omega⟩;subst hcn;have hcn3:cn<=3:=by have:=ord_col HOK.o HOB.o;omega
      have HLI:Hid (1<=ln/\ln<=4):=⟨by omega,by omega⟩;have d1:decide ((ln:Int)<1)=false:=decide_eq_false (by omega);have d2:decide (4<(ln:Int))=false:=decide_eq_false (by omega);have d3:¬ (ln:Int)<1:=by omega
      have d4:¬ 4<(ln:Int):=by omega
      have HC3:=aAb hcn3;clear hli hcn3;go_upto_region 10 with fail;have HV7:Hid (w6.drew.heap[V]?=some (.cells #[.pointer (some ⟨db,0,none⟩),.int .u8 (i:Int),.string t.s.nm,.slice ca t.s.cs.length cc,.slice xa t.s.xs.length xc] 101 (0,0))):=HV6.o;have HL7:Hid (w6.drew.heap[L]?=some (.cells #[.int .i64 lo.1,.int .i64 lo.2.1,.string lo.2.2] 36 (0,0))):=HL6.o;have HM7:Hid (w6.drew.heap[M]?=some (.cells #[.int .i64 hi.1,.int .i64 hi.2.1,.string hi.2.2] 36 (0,0))):=HM6.o;have HB7:Hid (Below L w w6.drew):=HB6.o.drew;have HSC7:Hid (SC w6.drew ca t.s.cs.length cc xa t.s.xs.length xc t.s):=HSC6.o.later (Below.refl _ _).drew;have HX0:Hid ((fun wx:World=>wx.cell? ⟨V,0,none⟩=some (.pointer (some ⟨db,0,none⟩))/\wx.cell? ⟨V,1,none⟩=some (.int .u8 (i:Int))/\wx.cell? ⟨V,2,none⟩=some (.string t.s.nm)/\wx.cell? ⟨V,3,none⟩=some (.slice ca t.s.cs.length cc)/\wx.cell? ⟨V,4,none⟩=some (.slice xa t.s.xs.length xc)/\wx.cell? ⟨L,0,none⟩=some (.int .i64 lo.1)/\wx.cell? ⟨L,1,none⟩=some (.int .i64 lo.2.1)/\wx.cell? ⟨L,2,none⟩=some (.string lo.2.2)/\wx.cell? ⟨M,0,none⟩=some (.int .i64 hi.1)/\wx.cell? ⟨M,1,none⟩=some (.int .i64 hi.2.1)/\wx.cell? ⟨M,2,none⟩=some (.string hi.2.2)) w6.drew):=⟨aAa HV7.o,aAa HV7.o,aAa HV7.o,aAa HV7.o,aAa HV7.o,aAa HL7.o,aAa HL7.o,aAa HL7.o,aAa HM7.o,aAa HM7.o,aAa HM7.o⟩;refine wp_region_noPanic ?_;refine wp_region_held_drew (S:=fun wx=>wx.cell? ⟨V,0,none⟩=some (.pointer (some ⟨db,0,none⟩))/\wx.cell? ⟨V,1,none⟩=some (.int .u8 (i:Int))/\wx.cell? ⟨V,2,none⟩=some (.string t.s.nm)/\wx.cell? ⟨V,3,none⟩=some (.slice ca t.s.cs.length cc)/\wx.cell? ⟨V,4,none⟩=some (.slice xa t.s.xs.length xc)/\wx.cell? ⟨L,0,none⟩=some (.int .i64 lo.1)/\wx.cell? ⟨L,1,none⟩=some (.int .i64 lo.2.1)/\wx.cell? ⟨L,2,none⟩=some (.string lo.2.2)/\wx.cell? ⟨M,0,none⟩=some (.int .i64 hi.1)/\wx.cell? ⟨M,1,none⟩=some (.int .i64 hi.2.1)/\wx.cell? ⟨M,2,none⟩=some (.string hi.2.2)) (by kernel_rfl) HX0.o (fun hHeld=>?_);generalize w6.drew=w7 at *
      refine kT 0 47 ?_;refine kT 1 48 ?_;refine kT 2 49 ?_;refine kT 4 51 ?_;refine kT 6 53 ?_;refine kC 3 ?_;intro K hK;go_simp;refine (aF6 lo w7 HLO.o.1 HFL.o HLO.o.2).mono ?_;rintro e w8 ⟨hv9,rfl,ho,hb⟩;obtain ⟨Aa,Ad,ek⟩:=ho.form;obtain ⟨Am,hkm⟩:∃ km,lo.bytes.length=km:=⟨_,rfl⟩;rw [ek] at ho;have hbs:=ho.bs (aBy lo) (by have:=aA8 lo HLO.o.2;omega);rw [hkm] at ek hbs;subst ek;have HKA:Hid (0<Am/\Am<=10000000):=by
       obtain ⟨h9,_,_,h8⟩:=aB3 [] HLO.o.1 HFL.o;have:=List.length_pos_iff.2 h8;have:=aA8 lo HLO.o.2;exact ⟨by omega,by omega⟩
      have HL8:=aAb ((hb.block L (aAd HL7.o)).trans HL7.o);have HM8:=aAb ((hb.block M (aAd HM7.o)).trans HM7.o);have HB8:Hid (Below L w w8):=HB7.o.trans (hb.mono (Nat.le_of_lt (aAd HL7.o)));have HV8:=aAb ((hb.block V (aAd HV7.o)).trans HV7.o);have HSC8:=aAb (HSC7.o.later hb);have HSA8:=aAb hbs;clear ho hbs hkm hb hHeld;refine hK.out _ _ ⟨aAa HV8.o,aAa HV8.o,aAa HV8.o,aAa HV8.o,aAa HV8.o,aAa HL8.o,aAa HL8.o,aAa HL8.o,aAa HM8.o,aAa HM8.o,aAa HM8.o⟩ (fun hHeld=>?_);clear hK K
      try simp only [Act.put,siT,scZ,scS]
      refine kC 5 ?_;intro K hK;go_simp;refine (aF6 hi w8 HHI.o.1 HFH.o HHI.o.2).mono ?_;rintro e w9 ⟨hv9,rfl,ho,hb⟩;obtain ⟨Da,Dd,ek⟩:=ho.form;obtain ⟨Dm,hkm⟩:∃ km,hi.bytes.length=km:=⟨_,rfl⟩;rw [ek] at ho;have hbs:=ho.bs (aBy hi) (by have:=aA8 hi HHI.o.2;omega);rw [hkm] at ek hbs;subst ek;have HKD:Hid (0<Dm/\Dm<=10000000):=by
       obtain ⟨h9,_,_,h8⟩:=aB3 [] HHI.o.1 HFH.o;have:=List.length_pos_iff.2 h8;have:=aA8 hi HHI.o.2;exact ⟨by omega,by omega⟩
      have HL9:=aAb ((hb.block L (aAd HL8.o)).trans HL8.o);have HM9:=aAb ((hb.block M (aAd HM8.o)).trans HM8.o);have HB9:Hid (Below L w w9):=HB8.o.trans (hb.mono (Nat.le_of_lt (aAd HL8.o)));have HV9:=aAb ((hb.block V (aAd HV8.o)).trans HV8.o);have HSC9:=aAb (HSC8.o.later hb);have HSD9:=aAb hbs;have HSA9:=aAb (HSA8.o.later hb (nR _));clear ho hbs hkm hb hHeld;refine hK.out _ _ ⟨aAa HV9.o,aAa HV9.o,aAa HV9.o,aAa HV9.o,aAa HV9.o,aAa HL9.o,aAa HL9.o,aAa HL9.o,aAa HM9.o,aAa HM9.o,aAa HM9.o⟩ (fun hHeld=>?_);clear hK K
      try simp only [Act.put,siT,scZ,scS]
      refine kC 7 ?_;intro K hK;go_simp;refine (tscan_ok (c:=cn) (limit:=ln) (HD.o.later (w':=w9) (by rw [HLL.o];exact HB9.o)) HI.o HLN.o HTI.o HSC9.o (by have:=HC3.o;omega) HSA9.o HKA.o HSD9.o HKD.o HLI.o).mono ?_;rintro e w10 ⟨⟨ta,tn,tk2,rfl,htr⟩,hb⟩;have HL10:=aAb ((hb.block L (aAd HL9.o)).trans HL9.o);have HM10:=aAb ((hb.block M (aAd HM9.o)).trans HM9.o);have HB10:Hid (Below L w w10):=HB9.o.trans (hb.mono (Nat.le_of_lt (aAd HL9.o)));have HV10:=aAb ((hb.block V (aAd HV9.o)).trans HV9.o);have HTR:=aAb (htr.mono (Nat.le_of_lt (aAd HL9.o)));clear htr hb hHeld;refine hK.out _ _ ⟨aAa HV10.o,aAa HV10.o,aAa HV10.o,aAa HV10.o,aAa HV10.o,aAa HL10.o,aAa HL10.o,aAa HL10.o,aAa HM10.o,aAa HM10.o,aAa HM10.o⟩ (fun hHeld=>?_);clear hK K
      try simp only [Act.put,siT,scZ,scS]
      refine kT 8 55 ?_;refine kT 9 56 ?_;refine kT 10 12 ?_;refine kT 11 13 ?_;refine wpAnyH_done (by kernel_rfl) ?_ _;refine NoPanic.normal ?_;clear hHeld;go_wp2;go_ret2;rw [<-HSO.o,HE.o];exact ⟨⟨ta,tn,tk2,rfl,HTR.o⟩,HB10.o⟩
    ·have hh1:(fh == 0)=false:=by simpa using hh0
     have hh2:(fh != 0)=true:=by simpa using hh0
     have HE:=aAb (HE1.o.trans (if_pos (Or.inr (by rw [HFH.o];exact hh0))));clear hh0;go_wp2;go_ret2;rw [<-HSO.o,HE.o];exact ⟨⟨none,0,0,rfl,[],SVK.nil _ _ _,rfl,(fun q e r q1=>by simp at q1),(fun _ q=>by cases q),fun e he=>by cases he⟩,HB6.o⟩
   ·have hl1:(fl == 0)=false:=by simpa using hl0
    have hl2:(fl != 0)=true:=by simpa using hl0
    have HE:=aAb (HE1.o.trans (if_pos (Or.inl (by rw [HFL.o];exact hl0))));clear hl0;go_wp2;go_ret2;rw [<-HSO.o,HE.o];exact ⟨⟨none,0,0,rfl,[],SVK.nil _ _ _,rfl,(fun q e r q1=>by simp at q1),(fun _ q=>by cases q),fun e he=>by cases he⟩,HB5.o⟩
def rA:List Val:=[(1,1,⟨#[]⟩),(2,0,⟨#[97]⟩)]
def rB2:List Val:=[(1,2,⟨#[]⟩),(2,0,⟨#[97]⟩)]
def rC2:List Val:=[(1,1,⟨#[]⟩),(2,0,⟨#[98]⟩)]
def o1:Out:=creO [] lit
theorem o1e:o1.e=0:=by kernel_rfl
theorem o1l:([]++o1.m).length=1:=by kernel_rfl
def o2:Out:=insO o1.T ⟨#[116]⟩ rA
theorem o2e:o2.e=0:=by kernel_rfl
theorem o2l:(([]++o1.m)++o2.m).length=3:=by kernel_rfl
def o3:Out:=insO o2.T ⟨#[116]⟩ rB2
theorem o3e:o3.e=64:=by kernel_rfl
theorem o3m:o3.m=[]:=by kernel_rfl
def o4:Out:=insO o2.T ⟨#[116]⟩ rC2
theorem o4e:o4.e=63:=by kernel_rfl
theorem o4m:o4.m=[]:=by kernel_rfl
def o5:Out:=insO o2.T ⟨#[117]⟩ []
theorem o5e:o5.e=60:=by kernel_rfl
theorem tgt:(getO o2.T ⟨#[116]⟩ (1,1,⟨#[]⟩))=(some rA,0):=by kernel_rfl
theorem tsc2:(scanO (([]++o1.m)++o2.m) o2.T ⟨#[116]⟩ 1 (0,0,⟨#[]⟩) (0,0,⟨#[]⟩) 4).2=0:=by kernel_rfl
theorem tsc1:(scanO (([]++o1.m)++o2.m) o2.T ⟨#[116]⟩ 1 (0,0,⟨#[]⟩) (0,0,⟨#[]⟩) 4).1.length=1:=by kernel_rfl
theorem aJd (k:Int) (b:ByteArray) (hk:0<=k/\k<=100000000) (hb:b.size<=100):∀ x∈([(1,k,⟨#[]⟩),(2,0,b)]:List Val),x.ok/\x.2.2.size<=1048576:=by
 intro x hx;simp only [List.mem_cons,List.not_mem_nil,or_false] at hx;rcases hx with rfl | rfl
 ·exact ⟨⟨by omega,by omega,by show _<=k;omega,by show k<=_;omega,by show (0:Nat)<=_;omega⟩,by show (0:Nat)<=_;omega⟩
 ·exact ⟨⟨by show _<=(2:Int);omega,by show (2:Int)<=_;omega,by show _<=(0:Int);omega,by show (0:Int)<=_;omega,by show b.size<=_;omega⟩,by show b.size<=_;omega⟩
theorem aJm (k:Int) (n:Int) (hn:0<=n/\n<=1) (hk:0<=k/\k<=100000000):Val.ok (n,k,⟨#[]⟩)/\(⟨#[]⟩:ByteArray).size<=1048576 :=
 ⟨⟨by show _<=n;omega,by show n<=_;omega,by show _<=k;omega,by show k<=_;omega,by show (0:Nat)<=_;omega⟩,by show (0:Nat)<=_;omega⟩
theorem create_nil (v:Value) (nm:ByteArray) (ca xa:Option Addr) (cl cc xl xc:Nat) (w:World):Calls prog 30 #[.pointer none,.agg #[.string nm,.slice ca cl cc,.slice xa xl xc]] w fun e w'=>e=.returned (.int .i64 1)/\Below w.heap.size w w':=by
 have HB:=aAb (aAe w (.cells #[.string nm,.slice ca cl cc,.slice xa xl xc] 33));go_enter func30,ntmps30;go_wp2;go_ret;exact ⟨rfl,HB.o⟩
theorem told15 (w:World):Calls prog 18 #[] w fun e w'=>e=.returned (.bool true)/\Below w.heap.size w w':=by
 letI:Gd:=⟨fun _=>False⟩;have HNW:=zH (lnew_ok w (fun _ h=>False.elim h));obtain ⟨B,hB⟩:∃ B,w.heap.size=B:=⟨_,rfl⟩;rw [hB] at HNW ⊢;have HB:=zH hB;clear hB;go_enter func18,ntmps18;go_wp2_with fail;refine HNW.o.mono ?_;rintro e w1 ⟨p,q,g,ls,db,w0,rfl,hd1,hb1⟩;have HD1:=zH hd1;clear hd1 hb1 HNW;go_wp2_with fail;refine (little_ok w1).mono ?_;rintro e w2 ⟨ca,cc,xa,xc,rfl,hsc,hb2⟩;have HC:Hid (Calls prog 30 #[.pointer (some ⟨db,0,none⟩),.agg #[.string ⟨#[116]⟩,.slice ca 2 cc,.slice xa 1 xc]] w2 fun e w'=>OpR B p q g ls db (.slice none 0 0) [] w w0 w2 o1 e w'):=aIn (HD1.o.later hb2) Inv.nil (by decide) hsc;clear hsc hb2 HD1;go_wp2_with fail;refine HC.o.mono ?_;rintro e w3 ⟨v3,he,hd3,_⟩;rw [o1e] at he;subst he;have HI3:Hid (Inv ([]++o1.m) o1.T):=Inv.nil.creO lit;have HD3:=zH hd3;clear hd3 HC;go_wp2_with fail;refine (row_ok 1 ⟨#[97]⟩ w3).mono ?_;rintro e w4 ⟨a4,c4,rfl,hr4,hb4⟩;have HC:Hid (Calls prog 26 #[.pointer (some ⟨db,0,none⟩),.string ⟨#[116]⟩,.slice a4 2 c4] w4 fun e w'=>OpR B p q g ls db v3 ([]++o1.m) w w0 w4 o2 e w'):=aCr (HD3.o.later hb4) HI3.o (by rw [o1l];omega) ⟨#[116]⟩ hr4 (aJd 1 ⟨#[97]⟩ (by omega) (by decide));clear hr4 hb4 HD3;go_wp2_with fail;refine HC.o.mono ?_;rintro e w5 ⟨v5,he,hd5,_⟩;rw [o2e] at he;subst he;have HI5:Hid (Inv (([]++o1.m)++o2.m) o2.T):=HI3.o.insO ⟨#[116]⟩ fun x hx=>(aJd 1 ⟨#[97]⟩ (by omega) (by decide) x hx).1
 have HD5:=zH hd5;clear hd5 HC HI3;go_wp2_with fail;refine (row_ok 2 ⟨#[97]⟩ w5).mono ?_;rintro e w6 ⟨a6,c6,rfl,hr6,hb6⟩;have HC:Hid (Calls prog 26 #[.pointer (some ⟨db,0,none⟩),.string ⟨#[116]⟩,.slice a6 2 c6] w6 fun e w'=>OpR B p q g ls db v5 (([]++o1.m)++o2.m) w w0 w6 o3 e w'):=aCr (HD5.o.later hb6) HI5.o (by rw [o2l];omega) ⟨#[116]⟩ hr6 (aJd 2 ⟨#[97]⟩ (by omega) (by decide));clear hr6 hb6 HD5;go_wp2_with fail;refine HC.o.mono ?_;rintro e w7 ⟨v7,he,hd7,_⟩;rw [o3e] at he;subst he;rw [o3m,List.append_nil] at hd7;have HD7:=zH hd7;clear hd7 HC;go_wp2_with fail;refine (row_ok 1 ⟨#[98]⟩ w7).mono ?_;rintro e w8 ⟨a8,c8,rfl,hr8,hb8⟩;have HC:Hid (Calls prog 26 #[.pointer (some ⟨db,0,none⟩),.string ⟨#[116]⟩,.slice a8 2 c8] w8 fun e w'=>OpR B p q g ls db v7 (([]++o1.m)++o2.m) w w0 w8 o4 e w'):=aCr (HD7.o.later hb8) HI5.o (by rw [o2l];omega) ⟨#[116]⟩ hr8 (aJd 1 ⟨#[98]⟩ (by omega) (by decide));clear hr8 hb8 HD7;go_wp2_with fail;refine HC.o.mono ?_;rintro e w9 ⟨v9,he,hd9,_⟩;rw [o4e] at he;subst he;rw [o4m,List.append_nil] at hd9;have HD9:=zH hd9;clear hd9 HC;have HC:Hid (Calls prog 24 #[.pointer (some ⟨db,0,none⟩),.string ⟨#[116]⟩,.agg #[.int .i64 1,.int .i64 1,.string ⟨#[]⟩]] w9 fun e w'=>TlR (some rA) 0 e w'/\Below w9.heap.size w9 w'):=by
  have h9:=tgetrow_ok HD9.o HI5.o (by rw [o2l];omega) ⟨#[116]⟩ (x:=(1,1,⟨#[]⟩)) (aJm 1 1 (by omega) (by omega)).1 (aJm 1 1 (by omega) (by omega)).2;rw [tgt] at h9;exact h9
 go_wp2_with fail;refine HC.o.mono ?_;rintro e w10 ⟨⟨ga,gn,gc,rfl,hg⟩,hb10⟩;obtain rfl:2=gn:=hg.hl;have HG10:Hid (SVK fV 3 w10 ga 2 gc rA):=hg;have HD10:=zH (HD9.o.later hb10);clear hg hb10 HC HD9;have HC:Hid (Calls prog 21 #[.pointer (some ⟨db,0,none⟩),.string ⟨#[116]⟩,.int .i64 1,.agg #[.int .i64 0,.int .i64 0,.string ⟨#[]⟩],.agg #[.int .i64 0,.int .i64 0,.string ⟨#[]⟩],.int .i64 4] w10 fun e w'=>(∃ a k,e=.returned (.tuple #[.slice a 1 k,.int .i64 0]))/\Below w10.heap.size w10 w'):=by
  refine (tscanP_ok HD10.o HI5.o (by rw [o2l];omega) ⟨#[116]⟩ (c:=1) (limit:=4) (lo:=(0,0,⟨#[]⟩)) (hi:=(0,0,⟨#[]⟩)) (aJm 0 0 (by omega) (by omega)) (aJm 0 0 (by omega) (by omega))).mono ?_;rintro e w' ⟨⟨a,n,k,rfl,es,hs,hl,_⟩,hb⟩;rw [tsc1] at hl;obtain rfl:1=n:=by rw [<-hl];exact hs.hl
  rw [tsc2];exact ⟨⟨a,k,rfl⟩,hb⟩
 go_wp2_with fail;refine HC.o.mono ?_;rintro e w11 ⟨⟨sa,sk,rfl⟩,hb11⟩;have HD11:=zH (HD10.o.later hb11);have HG11:=zH (HG10.o.later hb11);clear hb11 HC HD10 HG10;obtain ⟨gg,go,ega,_,hcell⟩:=HG11.o.pl (by omega);have c5:w11.cell? ⟨gg,go+5,none⟩=some (.string ⟨#[97]⟩):=hcell 1 _ rfl 2 (by omega);subst ega;clear hcell HG11;go_wp2_with fail;refine (little_ok w11).mono ?_;rintro e w12 ⟨da,dc,ea,ec,rfl,_,hb12⟩;have HD12:=zH (HD11.o.later hb12);clear hb12 HD11 c5;have HC:=zH (create_nil (.bool true) ⟨#[116]⟩ da ea 2 dc 1 ec w12);go_wp2_with fail;refine HC.o.mono ?_;rintro e w13 ⟨rfl,hb13⟩;have HD13:=zH (HD12.o.later hb13);clear hb13 HC HD12;have HC:Hid (Calls prog 26 #[.pointer (some ⟨db,0,none⟩),.string ⟨#[117]⟩,.slice none 0 0] w13 fun e w'=>OpR B p q g ls db v9 (([]++o1.m)++o2.m) w w0 w13 o5 e w'):=aCr HD13.o HI5.o (by rw [o2l];omega) ⟨#[117]⟩ (SVK.nil _ _ _) (fun x hx=>nomatch hx);go_wp2_with fail;refine HC.o.mono ?_;rintro e w14 ⟨v14,he,hd14,_⟩;rw [o5e] at he;subst he;have HBE:Hid (Below B w w14):=hd14.bel;clear hd14 HC HD13;go_wp2;go_ret;exact ⟨rfl,HBE.o⟩
def TbD [Gd] (B p q g ls db:Nat) (W w0:World) (N:Nat) (T:List Tbl) (w:World):Prop:=∃ v cs,DR B p q g ls db v cs W w0 w/\Inv cs T/\cs.length<=N
def KTb (w w':World):Prop:=∀ (i:Nat) (c:Array Value) (t:TypeId) (fz:Nat×Nat),w.heap[i]?=some (.cells c t fz)->t≠124->t≠164->w'.heap[i]?=some (.cells c t fz)
section
variable [Gd] {B p q g ls db N:Nat} {W w0 w w':World} {T:List Tbl}
theorem TbD.later (h:TbD B p q g ls db W w0 N T w) (hb:Below w.heap.size w w'):TbD B p q g ls db W w0 N T w':=by
 obtain ⟨v,cs,h1,h2,h3⟩:=h;exact ⟨v,cs,h1.later hb,h2,h3⟩
theorem TbD.bel (h:TbD B p q g ls db W w0 N T w):Below B W w:=by
 obtain ⟨v,cs,h1,h2,h3⟩:=h;exact h1.bel
end
theorem OpR.td8 [Gd] {o:Out} {e:Ending} (h:DR B p q g ls db v cs W w0 w) (I:Inv (cs++o.m) o.T) (hl:cs.length<=N) (hm:o.m.length<=8) (hp:OpR B p q g ls db v cs W w0 w o e w'):e=.returned (.int .i64 o.e)/\TbD B p q g ls db W w0 (N+8) o.T w'/\KTb w w':=by
 obtain ⟨v',rfl,hd,hf⟩:=hp;exact ⟨rfl,⟨v',_,hd,I,by rw [lA];omega⟩,fun i c t fz hi h1 h2=>hf.keep h.dd hi h1 h2⟩
theorem laid_len (i:Nat) {s:Sch} (r:List Val) (hs:s.ok=true):(laidR i s r).length<=4:=by
 unfold laidR;rw [List.length_map];exact aCx i r hs
theorem gone_len (i:Nat) {s:Sch} (r:List Val) (hs:s.ok=true):(goneR i s r).length<=4:=by
 unfold goneR;rw [List.length_map];exact aCx i r hs
theorem insO_len (I:Inv cs T) (nm:ByteArray) (r:List Val):(insO T nm r).m.length<=8:=by
 cases h1:tAt T nm with
 | none=>rw [aFm h1];exact Nat.zero_le _
 | some i =>
  obtain ⟨t,h2,_,h3⟩:=aAv h1;rw [aFl h1 h2];have:=laid_len i r (I.ok t h3);split
  ·exact Nat.zero_le _
  ·split
   ·exact Nat.zero_le _
   ·show (laidR i t.s r).length<=8;omega
theorem delO_len (I:Inv cs T) (nm:ByteArray) (x:Val):(delO T nm x).m.length<=8:=by
 cases h1:tAt T nm with
 | none=>rw [aFs h1];exact Nat.zero_le _
 | some i =>
  obtain ⟨t,h2,_,h3⟩:=aAv h1;rw [aFr h1 h2];split
  ·exact Nat.zero_le _
  ·cases h4:rowAt t.rows x with
   | none=>exact Nat.zero_le _
   | some r =>
    have:=gone_len i r (I.ok t h3);show (goneR i t.s r).length<=8;omega
theorem updO_len (I:Inv cs T) (nm:ByteArray) (r:List Val):(updO T nm r).m.length<=8:=by
 cases h1:tAt T nm with
 | none=>rw [aHe h1];exact Nat.zero_le _
 | some i =>
  obtain ⟨t,h2,_,h3⟩:=aAv h1;rw [aHd h1 h2];split
  ·exact Nat.zero_le _
  ·cases h4:rowAt t.rows (fst r) with
   | none=>exact Nat.zero_le _
   | some o =>
    dsimp only;split
    ·exact Nat.zero_le _
    ·have h5:=gone_len i o (I.ok t h3);have h6:=laid_len i r (I.ok t h3);show (goneR i t.s o++laidR i t.s r).length<=8;rw [lA];omega
theorem creO_len (T:List Tbl) (s:Sch):(creO T s).m.length<=8:=by
 unfold creO;split
 ·exact Nat.zero_le _
 ·split
  ·exact Nat.zero_le _
  ·split
   ·exact Nat.zero_le _
   ·show (1:Nat)<=8;omega
section
variable [Gd] {B p q g ls db N:Nat} {W w0 w:World} {T:List Tbl}
theorem TbD.cre (h:TbD B p q g ls db W w0 N T w) (hN:N<=990) (hsc:SC w ca cl cc xa xl xc s) :
  Calls prog 30 #[.pointer (some ⟨db,0,none⟩),.agg #[.string s.nm,.slice ca cl cc,.slice xa xl xc]] w fun e w'=>e=.returned (.int .i64 (creO T s).e)/\TbD B p q g ls db W w0 (N+8) (creO T s).T w'/\KTb w w':=by
 obtain ⟨v,cs,h1,h2,h3⟩:=h;exact (aIn h1 h2 (by omega) hsc).mono fun e w' hp=>OpR.td8 h1 (h2.creO _) h3 (creO_len _ _) hp
theorem TbD.insert (h:TbD B p q g ls db W w0 N T w) (hN:N<=990) (nm:ByteArray) (hp:SVK fV 3 w a n c r) (hok:∀ x∈r,x.ok/\x.2.2.size<=1048576) :
  Calls prog 26 #[.pointer (some ⟨db,0,none⟩),.string nm,.slice a n c] w fun e w'=>e=.returned (.int .i64 (insO T nm r).e)/\TbD B p q g ls db W w0 (N+8) (insO T nm r).T w'/\KTb w w':=by
 obtain ⟨v,cs,h1,h2,h3⟩:=h;exact (aCr h1 h2 (by omega) nm hp hok).mono fun e w' hp=>OpR.td8 h1 (h2.insO nm fun x hx=>(hok x hx).1) h3 (insO_len h2 _ _) hp
theorem TbD.update (h:TbD B p q g ls db W w0 N T w) (hN:N<=990) (nm:ByteArray) (hp:SVK fV 3 w a n c r) (hok:∀ x∈r,x.ok/\x.2.2.size<=1048576) :
  Calls prog 28 #[.pointer (some ⟨db,0,none⟩),.string nm,.slice a n c] w fun e w'=>e=.returned (.int .i64 (updO T nm r).e)/\TbD B p q g ls db W w0 (N+8) (updO T nm r).T w'/\KTb w w':=by
 obtain ⟨v,cs,h1,h2,h3⟩:=h;exact (tupdate_ok h1 h2 (by omega) nm hp hok).mono fun e w' hp=>OpR.td8 h1 (h2.updO nm fun x hx=>(hok x hx).1) h3 (updO_len h2 _ _) hp
theorem TbD.delete (h:TbD B p q g ls db W w0 N T w) (hN:N<=990) (nm:ByteArray) (hx:x.ok/\x.2.2.size<=1048576) :
  Calls prog 27 #[.pointer (some ⟨db,0,none⟩),.string nm,.agg #[.int .i64 x.1,.int .i64 x.2.1,.string x.2.2]] w fun e w'=>e=.returned (.int .i64 (delO T nm x).e)/\TbD B p q g ls db W w0 (N+8) (delO T nm x).T w'/\KTb w w':=by
 obtain ⟨v,cs,h1,h2,h3⟩:=h;exact (tdelete_ok h1 h2 (by omega) nm hx.1 hx.2).mono fun e w' hp=>OpR.td8 h1 (h2.delO nm x) h3 (delO_len h2 _ _) hp
theorem TbD.lenT (h:TbD B p q g ls db W w0 N T w) (hN:N<=990) (nm:ByteArray) :
  Calls prog 16 #[.pointer (some ⟨db,0,none⟩),.string nm] w fun e w'=>e=.returned (.tuple #[.int .i64 (lenO T nm).1,.int .i64 (lenO T nm).2])/\Below w.heap.size w w':=by
 obtain ⟨v,cs,h1,h2,h3⟩:=h;exact tlen_ok h1 h2 (by omega) nm
end
end Go.Proofs.YtdpdjpkmndnaaaaGreat
