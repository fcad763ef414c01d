import Derived.Test.YtdpdjpkmndnaaaaGreatY71
import Derived.Test.YtdpdjpkmndnaaaaGreatY66
set_option maxRecDepth 100000
set_option maxHeartbeats 16000000
set_option linter.unusedVariables false
namespace Go.Proofs.YtdpdjpkmndnaaaaGreat
open Go.RowKit _root_.Go.Proofs.Tryz
variable {B B1 R b c cc cl d db i k kc kn ls m n num pc q vc vn xc xl:Nat} {T:List Tbl} {W w w' w0:World} {a ca ka pa va xa:Option Addr} {b0 b1 b2 b3 b4 dv pv:Value} {cs:List Ch} {fz:Nat×Nat} {nm:ByteArray} {r:List Val} {s:Sch} {t:TypeId}
structure RHd (w:World) (pa:Option Addr) (pc:Nat) (va:Option Addr) (vc:Nat) (r:List Val):Prop where
 p:SVK fV 3 w pa r.length pc r
 v:HVu w va r.length vc r
theorem RHd.later (h:RHd w pa pc va vc r) (hb:Below w.heap.size w w'):RHd w' pa pc va vc r:=⟨h.p.later hb,h.v.later hb⟩
theorem aEz {g:Nat} {a0 a1:Value} (h:w.heap[g]?=some (.cells #[a0,a1] t (0,0))):((w.setCell ⟨g,0,none⟩ b0).setCell ⟨g,1,none⟩ b1).heap[g]?=some (.cells #[b0,b1] t (0,0)) :=
 heap_setCell_same _ _ _ _ _ _ (heap_setCell_same _ _ _ _ _ _ h)
theorem aBn {g:Nat} (h:b≠g):((w.setCell ⟨g,0,none⟩ b0).setCell ⟨g,1,none⟩ b1).heap[b]?=w.heap[b]?:=by
 rw [heap_setCell_other _ _ _ _ h,heap_setCell_other _ _ _ _ h]
theorem aC0 {g:Nat} (h:Below B w0 w) (hg:B<=g):Below B w0 ((w.setCell ⟨g,0,none⟩ b0).setCell ⟨g,1,none⟩ b1) :=
 (h.setCell (p:=⟨g,0,none⟩) hg _).setCell (p:=⟨g,1,none⟩) hg _
theorem SVK.oth {α:Type} {f:α->List Value} {l:List α} {cs:Array Value} (h:SVK f k w a n c l) (hk:0<k) (hR:w.heap[R]?=some (.cells cs t fz)) (hno:∀ x u,(f x)[0]?=some u->∀ o:Nat,cs[o]?≠some u) (hfx:∀ x,∃ u,(f x)[0]?=some u) (hs:w.heap.size<=w'.heap.size) (ho:∀ b,b≠R->w'.heap[b]?=w.heap[b]?):SVK f k w' a n c l:=by
 refine ⟨h.hl,h.hc,h.hm,h.hn,fun h0=>?_⟩;obtain ⟨b,o,h1,h2,h3⟩:=h.pl h0;have hne:b≠R:=by
  intro e;subst e;obtain ⟨x,hx⟩:∃ x,l[0]?=some x:=⟨_,gE (by rw [h.hl];exact h0)⟩;obtain ⟨u,hu⟩:=hfx x;have:=h3 0 x hx 0 hk;rw [hu,aAa hR] at this;exact hno x u hu _ this
 exact ⟨b,o,h1,Nat.lt_of_lt_of_le h2 hs,fun i x hx t ht=>(World.cell?_of_block (ho b hne)).trans (h3 i x hx t ht)⟩
theorem FT.oth {cs:Array Value} (hR:w.heap[R]?=some (.cells cs t fz)) (ht:t≠5) (hb:Below 0 w w') (ho:∀ b,b≠R->w'.heap[b]?=w.heap[b]?):FT 0 w w':=by
 refine ⟨hb,fun k c2 f2 e=>(ho k fun q=>?_).trans e⟩;rw [q,hR] at e;simp only [oI,cI] at e;exact ht e.2.1
def NoV (cs:Array Value):Prop:=(∀ (z:Int) (o:Nat),cs[o]?≠some (.int .i64 z))/\∀ (t:TypeId) (u:Value) (o:Nat),cs[o]?≠some (.iface t u)
theorem RHd.oth {cs:Array Value} (h:RHd w pa pc va vc r) (hR:w.heap[R]?=some (.cells cs t fz)) (ht:t≠5) (hno:NoV cs) (hb:Below 0 w w') (ho:∀ b,b≠R->w'.heap[b]?=w.heap[b]?):RHd w' pa pc va vc r:=by
 obtain ⟨hs,h1,h2⟩:=h.v
 exact ⟨h.p.oth (by omega) hR (fun x u hu o=>by simp only [fV,List.getElem?_cons_zero,oI] at hu;subst hu;exact hno.1 _ o) (fun x=>⟨_,rfl⟩) hb.size ho,
  hs,h1.oth (by omega) hR (fun x u hu o=>by simp only [fI,List.getElem?_cons_zero,oI] at hu;subst hu;exact hno.2 _ _ o) (fun x=>⟨_,rfl⟩) hb.size ho,h2.ft (FT.oth hR ht hb ho)⟩
theorem aE4 {b:Option Addr}:NoV #[.slice a n c,.slice b m d]:=by
 constructor
 ·intro z o
  match o with
  | 0=>simp
  | 1=>simp
  | o+2=>simp
 ·intro t u o
  match o with
  | 0=>simp
  | 1=>simp
  | o+2=>simp
theorem noV_tab {p:Option Addr} {i:Int} {s:ByteArray} {b:Option Addr}:NoV #[.pointer p,.int .u8 i,.string s,.slice a n c,.slice b m d]:=by
 constructor
 ·intro z o
  match o with
  | 0=>simp
  | 1=>simp
  | 2=>simp
  | 3=>simp
  | 4=>simp
  | o+5=>simp
 ·intro t u o
  match o with
  | 0=>simp
  | 1=>simp
  | 2=>simp
  | 3=>simp
  | 4=>simp
  | o+5=>simp
theorem RHd.set2 {b:Option Addr} (h:RHd w pa pc va vc r) (hR:w.heap[R]?=some (.cells #[.slice a n c,.slice b m d] 119 (0,0))):RHd ((w.setCell ⟨R,0,none⟩ b0).setCell ⟨R,1,none⟩ b1) pa pc va vc r :=
 h.oth hR (by decide) aE4 (aC0 (Below.refl 0 w) (Nat.zero_le _)) fun _ hb=>aBn hb
theorem RHd.set5 {p b:Option Addr} {i:Int} {sx:ByteArray} (h:RHd w pa pc va vc r) (hR:w.heap[R]?=some (.cells #[.pointer p,.int .u8 i,.string sx,.slice a n c,.slice b m d] 101 (0,0))):RHd (((((w.setCell ⟨R,0,none⟩ b0).setCell ⟨R,1,none⟩ b1).setCell ⟨R,2,none⟩ b2).setCell ⟨R,3,none⟩ b3).setCell ⟨R,4,none⟩ b4) pa pc va vc r :=
 h.oth hR (by decide) noV_tab (aHs (Below.refl 0 w) (Nat.zero_le _)) fun _ hb=>aDy hb
theorem SC.oth {cs:Array Value} (h:SC w ca cl cc xa xl xc s) (hR:w.heap[R]?=some (.cells cs t fz)) (hnc:∀ (z:Int) (o:Nat),cs[o]?≠some (.int .i64 z)) (hs:w.heap.size<=w'.heap.size) (ho:∀ b,b≠R->w'.heap[b]?=w.heap[b]?):SC w' ca cl cc xa xl xc s:=by
 refine ⟨?_,h.x.oth (by omega) hR (fun x u hu o=>by simp only [fX,List.getElem?_cons_zero,oI] at hu;subst hu;exact hnc _ o) (fun x=>⟨_,rfl⟩) hs ho⟩;refine ⟨h.c.hl,h.c.hc,h.c.hm,h.c.hn,fun h0=>?_⟩;obtain ⟨b,o,h1,h2,h3⟩:=h.c.pl h0;have hne:b≠R:=by
  intro e;subst e;obtain ⟨x,hx⟩:∃ x,s.cs[0]?=some x:=⟨_,gE (by rw [h.c.hl];exact h0)⟩;have:=h3 0 x hx 1 (by omega);rw [aAa hR] at this;exact hnc _ _ this
 exact ⟨b,o,h1,Nat.lt_of_lt_of_le h2 hs,fun i x hx t ht=>(World.cell?_of_block (ho b hne)).trans (h3 i x hx t ht)⟩
theorem tread_new (hsc:SC w ca s.cs.length cc xa s.xs.length xc s) (hs:s.ok=true) (hr:RowOk s r) (hb:BS w a n c (rowB r)) :
  Calls prog 88 #[.agg #[dv,.int .u8 (num:Int),.string s.nm,.slice ca s.cs.length cc,.slice xa s.xs.length xc],.slice a n c] w fun e w'=>∃ pa pc va vc,e=.returned (.tuple #[.agg #[.slice pa r.length pc,.slice va r.length vc],.int .i64 0])/\RHd w' pa pc va vc r/\Below w.heap.size w w'/\∀ ad,pa=some ad->w.heap.size<=ad.block:=by
 obtain ⟨L,hL⟩:∃ L,w.heap.size=L:=⟨_,rfl⟩;obtain ⟨R,hR⟩:∃ R,L+1=R:=⟨_,rfl⟩;obtain ⟨w1,hw1⟩:∃ w1,w1=(w.alloc (.cells #[dv,.int .u8 (num:Int),.string s.nm,.slice ca s.cs.length cc,.slice xa s.xs.length xc] 101)).alloc (.cells #[.slice none 0 0,.slice none 0 0] 119):=⟨_,rfl⟩;have hb1:Below w.heap.size w w1:=by rw [hw1];exact (aAg w _).trans ((aAg _ _).mono (aAg w _).size)
 have HT1:Hid (w1.heap[L]?=some (.cells #[dv,.int .u8 (num:Int),.string s.nm,.slice ca s.cs.length cc,.slice xa s.xs.length xc] 101 (0,0))):=by show _=_;rw [hw1,<-hL];exact heap_alloc2_old w _ _
 have HZ1:Hid (w1.heap[R]?=some (.cells #[.slice none 0 0,.slice none 0 0] 119 (0,0))):=by show _=_;rw [hw1,<-hR,<-hL];exact heap_alloc2_new w _ _
 have HB1:Hid (Below L w w1):=by show Below L w w1;rw [<-hL];exact hb1
 have HS1:=aAc (hsc.later hb1);have hn:n<=1048576:=by have:=hb.hlen;have:=aJz hr.rE;omega
 have HDR:=aAc (aKo (hb.later hb1 (nR _)) hn);rw [aIl hr.rE hr.ok] at HDR;have HR:=aAc hr;have HSO:=aAc hs;have HW1:=aAc hw1;have HLL:=aAc hR;rw [hL];clear hsc hs hr hb hb1 hw1 hn;go_enter func88,ntmps88;go_upto_region 1 with fail;rw [<-HW1.o]
 try simp only [hL,hR]
 clear HW1;go_wp2_with fail;refine HDR.o.mono ?_;rintro e w2 ⟨hd,hb2⟩;obtain ⟨_,pa,pc,rfl,hsv,hfr⟩:=hd;have HFR:Hid (∀ ad,pa=some ad->L<=ad.block):=fun ad q=>nT (Nat.le_of_lt (aAe HT1.o)) (hfr ad q)
 clear hfr;obtain ⟨m,hm⟩:∃ m,r.length=m:=⟨_,rfl⟩;have HM:=aAc hm;rw [hm] at hsv ⊢;have hm3:m<=3:=by rw [<-hm,HR.o.len];exact (Sch.c3 HSO.o).2
 have HT2:=aAc ((hb2.block L (aAe HT1.o)).trans HT1.o);have HZ2:=aAc ((hb2.block R (aAe HZ1.o)).trans HZ1.o);have HB2:Hid (Below L w w2):=HB1.o.trans (hb2.mono (Nat.le_of_lt (aAe HT1.o)));have HFT:=aAc (sfits_any (HS1.o.later hb2) hsv (fun x hx=>by have h9:=HR.o.val hx;have:=aCd h9.2.1 h9.2.2;omega));rw [HR.o.fit] at HFT;have HSV:=aAc hsv;have x2:w2.cell? ⟨L,2,none⟩=some (.string s.nm):=aAa HT2.o;have x3:w2.cell? ⟨L,3,none⟩=some (.slice ca s.cs.length cc):=aAa HT2.o;have x4:w2.cell? ⟨L,4,none⟩=some (.slice xa s.xs.length xc):=aAa HT2.o;have HM3:=aAc hm3;clear hsv hb2 HDR HS1 HT1 HZ1 HB1 hm hm3;go_wp2_with fail;refine HFT.o.mono ?_;rintro e w3 ⟨rfl,hb3⟩;have HZ3:=aAc ((hb3.block R (aAe HZ2.o)).trans HZ2.o);have HB3:Hid (Below L w w3):=HB2.o.trans (hb3.mono (Nat.le_of_lt (aAe HT2.o)));have HSV3:=aAc (HSV.o.later hb3);have HHR:=aAc (aGe HSV3.o (by have:=HM3.o;omega) (fun x hx=>by have h9:=HR.o.val hx;have:=aCd h9.2.1 h9.2.2;exact ⟨h9.1,h9.2.1,by omega⟩));have HLG:Hid (L<=w3.heap.size/\L<=R):=⟨by have:=aAe HZ3.o;have:=HLL.o;omega,by have:=HLL.o;omega⟩;clear hb3 x2 x3 x4 HFT HT2 HZ2 HB2 HSV;go_wp2_with fail;refine HHR.o.mono ?_;rintro e w4 ⟨va,vc,rfl,hv,hb4⟩;have HZ4:=aAc ((hb4.block R (aAe HZ3.o)).trans HZ3.o);have HB4:Hid (Below L w w4):=HB3.o.trans (hb4.mono HLG.o.1);have HRH:Hid (RHd w4 pa pc va vc r):=by
  refine ⟨?_,?_⟩
  ·rw [HM.o];exact HSV3.o.later hb4
  ·rw [HM.o];exact hv
 clear hv hb4 HHR HSV3 HB3 HZ3;have z0:w4.cell? ⟨R,0,none⟩=some (.slice none 0 0):=aAa HZ4.o;have zf0:w4.frozen? ⟨R,0,none⟩=false:=aAi HZ4.o;have z1:w4.cell? ⟨R,1,none⟩=some (.slice none 0 0):=aAa HZ4.o;have zf1:w4.frozen? ⟨R,1,none⟩=false:=aAi HZ4.o;go_wp2;(try simp only [Exit.inBlock,Exit.then]);refine bodyPost_ret (aD1 results88 _ _ R _ _ _ _ rfl (aEz HZ4.o)) rfl ?_;exact ⟨pa,pc,va,vc,by rw [HM.o];rfl,HRH.o.set2 HZ4.o,aC0 HB4.o HLG.o.2,HFR.o⟩
def GetR (t:Tbl) (x:Val) (e:Ending) (w':World):Prop :=
 (rowAt t.rows x=none->e=.returned (.tuple #[.agg #[.slice none 0 0,.slice none 0 0],.int .i64 4])) /\
 ∀ r,rowAt t.rows x=some r->∃ pa pc va vc,e=.returned (.tuple #[.agg #[.slice pa r.length pc,.slice va r.length vc],.int .i64 0])/\RHd w' pa pc va vc r
def GetRn (B:Nat) (t:Tbl) (x:Val) (e:Ending) (w':World):Prop :=
 (rowAt t.rows x=none->e=.returned (.tuple #[.agg #[.slice none 0 0,.slice none 0 0],.int .i64 4])) /\
 ∀ r,rowAt t.rows x=some r->∃ pa pc va vc,e=.returned (.tuple #[.agg #[.slice pa r.length pc,.slice va r.length vc],.int .i64 0])/\RHd w' pa pc va vc r/\∀ ad,pa=some ad->B<=ad.block
theorem GetRn.gr {t:Tbl} {x:Val} {e:Ending} (h:GetRn B t x e w'):GetR t x e w':=⟨h.1,fun r hr=>by obtain ⟨pa,pc,va,vc,h1,h2,_⟩:=h.2 r hr;exact ⟨pa,pc,va,vc,h1,h2⟩⟩
theorem aG2 [Gd] {p g:Nat} {v:Value} {t:Tbl} {x:Val} (h:DR B p q g ls db v cs W w0 w) (I:Inv cs T) (hl:cs.length<=1000) (hti:T[i]?=some t) (hx:x.ok) (hxe:x.err=0) (hsc:SC w ca t.s.cs.length cc xa t.s.xs.length xc t.s) (hb:BS w ka kn kc x.bytes) (hkn:kn<=10000000) (hkp:0<kn) :
  Calls prog 58 #[.agg #[.pointer (some ⟨db,0,none⟩),.int .u8 (i:Int),.string t.s.nm,.slice ca t.s.cs.length cc,.slice xa t.s.xs.length xc],.iface (hT x) (.slice ka kn kc)] w fun e w'=>GetRn w.heap.size t x e w'/\Below w.heap.size w w':=by
 obtain ⟨L,hL⟩:∃ L,w.heap.size=L:=⟨_,rfl⟩;obtain ⟨R,hR⟩:∃ R,L+1=R:=⟨_,rfl⟩;obtain ⟨w1,hw1⟩:∃ w1,w1=(w.alloc (.cells #[.pointer (some ⟨db,0,none⟩),.int .u8 (i:Int),.string t.s.nm,.slice ca t.s.cs.length cc,.slice xa t.s.xs.length xc] 101)).alloc (.cells #[.slice none 0 0,.slice none 0 0] 119):=⟨_,rfl⟩;have hb1:Below w.heap.size w w1:=by rw [hw1];exact (aAg w _).trans ((aAg _ _).mono (aAg w _).size)
 have HT1:Hid (w1.drew.heap[L]?=some (.cells #[.pointer (some ⟨db,0,none⟩),.int .u8 (i:Int),.string t.s.nm,.slice ca t.s.cs.length cc,.slice xa t.s.xs.length xc] 101 (0,0))):=by show w1.heap[L]?=_;rw [hw1,<-hL];exact heap_alloc2_old w _ _
 have HZ1:Hid (w1.drew.heap[R]?=some (.cells #[.slice none 0 0,.slice none 0 0] 119 (0,0))):=by show w1.heap[R]?=_;rw [hw1,<-hR,<-hL];exact heap_alloc2_new w _ _
 have HB1:Hid (Below L w w1.drew):=by show Below L w _;rw [<-hL];exact hb1.drew
 have hb1d:=hb1.drew;have HS1:=aAc (hsc.later hb1d);have HD1:=aAc (h.later hb1d);have HK1:=aAc (hb.later hb1d (nR _));have htm:=at_mem hti;have hi4:i<256:=by have:=(lL hti);have:=I.len;omega
 have HI4:=aAc hi4;have HOK:=aAc (I.ok t htm);have HI:=aAc I;have HL:=aAc hl;have HTI:=aAc hti;have HXE:=aAc (And.intro hx hxe);have HKN:=aAc (And.intro hkp hkn);have HW1:=aAc hw1;have HLL:=aAc hR;obtain ⟨kl,hkl⟩:∃ kl,min (kn+2) 60=kl:=⟨_,rfl⟩;have HKL:Hid (2<=kl/\kl<=60):=⟨by omega,by omega⟩;have HRK:Hid (Calls prog 95 #[.agg #[.pointer (some ⟨db,0,none⟩),.int .u8 (i:Int),.string t.s.nm,.slice ca t.s.cs.length cc,.slice xa t.s.xs.length xc],.iface (hT x) (.slice ka kn kc)] w1.drew fun e w'=>∃ a' c',e=.returned (.slice a' kl c')/\BS w' a' kl c' ((rk i x).take 60)/\UB w' a'/\Below w1.drew.heap.size w1.drew w'):=by
  have h9:=rowKey_ok (x:=x) (dv:=.pointer (some ⟨db,0,none⟩)) (nm:=t.s.nm) (ca:=ca) (cl:=t.s.cs.length) (cc:=cc) (xa:=xa) (xl:=t.s.xs.length) (xc:=xc) HI4.o HK1.o HKN.o.1 HKN.o.2;rw [hkl] at h9;exact h9
 rw [hL];clear h I hl hti hx hxe hsc hb hkn hkp hb1 hb1d hw1 htm hi4 hkl;generalize hT x=tx at *
 go_enter func58,ntmps58;go_upto_region 1 with fail;rw [<-HW1.o]
 try simp only [hL,hR]
 clear HW1;have HX0:Hid ((fun wx:World=>wx.cell? ⟨L,0,none⟩=some (.pointer (some ⟨db,0,none⟩))/\wx.cell? ⟨L,1,none⟩=some (.int .u8 (i:Int))/\wx.cell? ⟨L,2,none⟩=some (.string t.s.nm)/\wx.cell? ⟨L,3,none⟩=some (.slice ca t.s.cs.length cc)/\wx.cell? ⟨L,4,none⟩=some (.slice xa t.s.xs.length xc)) w1.drew):=⟨aAa HT1.o,aAa HT1.o,aAa HT1.o,aAa HT1.o,aAa HT1.o⟩;refine wp_region_noPanic ?_;refine wp_region_held_drew (S:=fun wx=>wx.cell? ⟨L,0,none⟩=some (.pointer (some ⟨db,0,none⟩))/\wx.cell? ⟨L,1,none⟩=some (.int .u8 (i:Int))/\wx.cell? ⟨L,2,none⟩=some (.string t.s.nm)/\wx.cell? ⟨L,3,none⟩=some (.slice ca t.s.cs.length cc)/\wx.cell? ⟨L,4,none⟩=some (.slice xa t.s.xs.length xc)) (by kernel_rfl) HX0.o (fun hHeld=>?_);generalize w1.drew=w1 at *
 refine aAb 0 10 ?_;refine aAb 1 11 ?_;refine aAb 2 12 ?_;refine aAb 3 13 ?_;refine aAf 4 ?_;intro K hK;go_simp;refine HRK.o.mono ?_;rintro e w2 ⟨a2,c2,rfl,hbs,hub,hb2⟩;have HT2:=aAc ((hb2.block L (aAe HT1.o)).trans HT1.o);have HZ2:=aAc ((hb2.block R (aAe HZ1.o)).trans HZ1.o);have HB2:Hid (Below L w w2):=HB1.o.trans (hb2.mono (Nat.le_of_lt (aAe HT1.o)));have HS2:=aAc (HS1.o.later hb2);have HD2:=aAc (HD1.o.later hb2);have HBK:Hid (BK B w2 a2 kl c2 ((rk i x).take 60)):=aB9 hbs hub;clear hbs hub hb2 hHeld HRK;refine hK.out _ _ ⟨aAa HT2.o,aAa HT2.o,aAa HT2.o,aAa HT2.o,aAa HT2.o⟩ (fun hHeld=>?_);clear hK K
 try simp only [Act.put,siT,scZ,scS]
 refine aAf 5 ?_;intro K hK;go_simp;refine (dget_ok (sp:=1) HD2.o.now HD2.o.dd HL.o HBK.o (by unfold wrg;rw [show isSp 1=true from rfl,decide_eq_false (show ¬ kl=0 by have:=HKL.o;omega),decide_eq_false (show ¬ 60<kl by have:=HKL.o;omega),decide_eq_false (show ¬ 1800<0 by omega)];rfl)).mono ?_;rintro e w3 ⟨hgt,hb3⟩;have HT3:=aAc ((hb3.block L (aAe HT2.o)).trans HT2.o);have HZ3:=aAc ((hb3.block R (aAe HZ2.o)).trans HZ2.o);have HB3:Hid (Below L w w3):=HB2.o.trans (hb3.mono (Nat.le_of_lt (aAe HT2.o)));have HS3:=aAc (HS2.o.later hb3);have HD3:=aAc (HD2.o.later hb3);have HGT:=aAc hgt;clear hb3 hgt hHeld HD2 HD1 HT1 HT2 HB1 HB2 HS1 HS2 HZ1 HZ2
 cases hra:rowAt t.rows x with
 | none =>
  have he:=HGT.o.none_ (HI.o.get_no HTI.o HXE.o.1 HXE.o.2 (aI9 hra));subst he;have HRA:=aAc hra;clear hra HGT;refine hK.out _ _ ⟨aAa HT3.o,aAa HT3.o,aAa HT3.o,aAa HT3.o,aAa HT3.o⟩ (fun hHeld=>?_);clear hK K
  try simp only [Act.put,siT,scZ,scS]
  refine aAb 6 9 ?_;refine aAb 7 16 ?_;refine aAb 8 17 ?_;refine aAb 9 18 ?_;refine aAb 10 6 ?_;refine aAb 11 7 ?_;refine aAb 12 8 ?_;refine wpAnyH_done (by kernel_rfl) ?_ _;refine NoPanic.normal ?_;clear hHeld;have z0:w3.cell? ⟨R,0,none⟩=some (.slice none 0 0):=aAa HZ3.o;have zf0:w3.frozen? ⟨R,0,none⟩=false:=aAi HZ3.o;have z1:w3.cell? ⟨R,1,none⟩=some (.slice none 0 0):=aAa HZ3.o;have zf1:w3.frozen? ⟨R,1,none⟩=false:=aAi HZ3.o;go_wp2;(try simp only [Exit.inBlock,Exit.then]);refine bodyPost_ret (aD1 results58 _ _ R _ _ _ _ rfl (aEz HZ3.o)) rfl ?_;exact ⟨⟨fun _=>rfl,fun r q=>nomatch (HRA.o.symm.trans q)⟩,aC0 HB3.o (by have:=HLL.o;omega)⟩
 | some r =>
  obtain ⟨hrm,hrf⟩:=aC3 hra;subst hrf;have hgt:=HGT.o;rw [HI.o.get_yes HTI.o hrm] at hgt;obtain ⟨a4,k4,he,hbk⟩:=hgt.some_ rfl;subst he;dsimp only at hbk;have HRO:=aAc (HI.o.row t (at_mem HTI.o) r hrm);have HRA:=aAc hra;obtain ⟨bn,hbn⟩:∃ bn,(rowB r).length=bn:=⟨_,rfl⟩;have hbs:=hbk.1;rw [hbn] at hbs;have HRD:=aAc (tread_new (dv:=.pointer (some ⟨db,0,none⟩)) (num:=i) HS3.o HOK.o HRO.o hbs);dsimp only;rw [hbn];clear hra hgt hbk hbs hbn HGT hrm;refine hK.out _ _ ⟨aAa HT3.o,aAa HT3.o,aAa HT3.o,aAa HT3.o,aAa HT3.o⟩ (fun hHeld=>?_);clear hK K
  try simp only [Act.put,siT,scZ,scS]
  refine aAb 6 9 ?_;refine aAb 7 16 ?_;refine aAb 8 17 ?_;refine aAb 9 18 ?_;refine aAb 10 6 ?_;refine aAb 11 7 ?_;refine aAb 12 8 ?_;refine wpAnyH_done (by kernel_rfl) ?_ _;refine NoPanic.normal ?_;clear hHeld;have x0:w3.cell? ⟨L,0,none⟩=some (.pointer (some ⟨db,0,none⟩)):=aAa HT3.o;have x1:w3.cell? ⟨L,1,none⟩=some (.int .u8 (i:Int)):=aAa HT3.o;have x2:w3.cell? ⟨L,2,none⟩=some (.string t.s.nm):=aAa HT3.o;have x3:w3.cell? ⟨L,3,none⟩=some (.slice ca t.s.cs.length cc):=aAa HT3.o;have x4:w3.cell? ⟨L,4,none⟩=some (.slice xa t.s.xs.length xc):=aAa HT3.o;have z0:w3.cell? ⟨R,0,none⟩=some (.slice none 0 0):=aAa HZ3.o;have zf0:w3.frozen? ⟨R,0,none⟩=false:=aAi HZ3.o;have z1:w3.cell? ⟨R,1,none⟩=some (.slice none 0 0):=aAa HZ3.o;have zf1:w3.frozen? ⟨R,1,none⟩=false:=aAi HZ3.o;clear z0 zf0 z1 zf1;go_wp2_with fail;refine HRD.o.mono ?_;rintro e w4 ⟨pa,pc,va,vc,rfl,hrh,hb4,hfr⟩;have HRH:=aAc hrh;have HFR:Hid (∀ ad,pa=some ad->L<=ad.block):=fun ad q=>nT (Nat.le_of_lt (aAe HT3.o)) (hfr ad q)
  clear hfr;have HZ4:=aAc ((hb4.block R (aAe HZ3.o)).trans HZ3.o);have HB4:Hid (Below L w w4):=HB3.o.trans (hb4.mono (Nat.le_of_lt (aAe HT3.o)));clear hrh hb4 HRD x0 x1 x2 x3 x4;have z0:w4.cell? ⟨R,0,none⟩=some (.slice none 0 0):=aAa HZ4.o;have zf0:w4.frozen? ⟨R,0,none⟩=false:=aAi HZ4.o;have z1:w4.cell? ⟨R,1,none⟩=some (.slice none 0 0):=aAa HZ4.o;have zf1:w4.frozen? ⟨R,1,none⟩=false:=aAi HZ4.o;go_wp2;(try simp only [Exit.inBlock,Exit.then]);refine bodyPost_ret (aD1 results58 _ _ R _ _ _ _ rfl (aEz HZ4.o)) rfl ?_;refine ⟨⟨(fun q=>nomatch (HRA.o.symm.trans q)),fun r2 q=>?_⟩,aC0 HB4.o (by have:=HLL.o;omega)⟩;have q2:=HRA.o.symm.trans q;simp only [oI] at q2;subst q2;exact ⟨pa,pc,va,vc,rfl,HRH.o.set2 HZ4.o,HFR.o⟩
theorem aF7 [Gd] {p g:Nat} {v:Value} {t:Tbl} {x:Val} (h:DR B p q g ls db v cs W w0 w) (I:Inv cs T) (hl:cs.length<=1000) (hti:T[i]?=some t) (hx:x.ok) (hxe:x.err=0) (hsc:SC w ca t.s.cs.length cc xa t.s.xs.length xc t.s) (hb:BS w ka kn kc x.bytes) (hkn:kn<=10000000) (hkp:0<kn) :
  Calls prog 58 #[.agg #[.pointer (some ⟨db,0,none⟩),.int .u8 (i:Int),.string t.s.nm,.slice ca t.s.cs.length cc,.slice xa t.s.xs.length xc],.iface (hT x) (.slice ka kn kc)] w fun e w'=>GetR t x e w'/\Below w.heap.size w w':=(aG2 h I hl hti hx hxe hsc hb hkn hkp).mono fun e w' h=>⟨h.1.gr,h.2⟩
theorem tcount_ok [Gd] {p g:Nat} {v:Value} {t:Tbl} (h:DR B p q g ls db v cs W w0 w) (I:Inv cs T) (hl:cs.length<=1000) (hti:T[i]?=some t) :
  Calls prog 42 #[.agg #[.pointer (some ⟨db,0,none⟩),.int .u8 (i:Int),.string t.s.nm,.slice ca t.s.cs.length cc,.slice xa t.s.xs.length xc]] w fun e w'=>e=.returned (.tuple #[.int .i64 (t.rows.length:Int),.int .i64 0])/\Below w.heap.size w w':=by
 obtain ⟨L,hL⟩:∃ L,w.heap.size=L:=⟨_,rfl⟩;obtain ⟨w1,hw1⟩:∃ w1,w1=w.alloc (.cells #[.pointer (some ⟨db,0,none⟩),.int .u8 (i:Int),.string t.s.nm,.slice ca t.s.cs.length cc,.slice xa t.s.xs.length xc] 101):=⟨_,rfl⟩;have hb1:Below w.heap.size w w1:=by rw [hw1];exact aAg w _
 have HT1:Hid (w1.drew.heap[L]?=some (.cells #[.pointer (some ⟨db,0,none⟩),.int .u8 (i:Int),.string t.s.nm,.slice ca t.s.cs.length cc,.slice xa t.s.xs.length xc] 101 (0,0))):=by show w1.heap[L]?=_;rw [hw1,<-hL];exact boxed w _
 have HB1:Hid (Below L w w1.drew):=by show Below L w _;rw [<-hL];exact hb1.drew
 have HD1:=aAc (h.later hb1.drew);have hi4:i<256:=by have:=(lL hti);have:=I.len;omega
 have HI4:=aAc hi4;have HL:=aAc hl;have HCN:=aAc (I.count hti);have HW1:=aAc hw1;rw [hL];clear h I hl hti hb1 hw1 hi4;go_enter func42,ntmps42;go_upto_region 1 with fail;rw [<-HW1.o]
 try simp only [hL]
 clear HW1;have HX0:Hid ((fun wx:World=>wx.cell? ⟨L,0,none⟩=some (.pointer (some ⟨db,0,none⟩))/\wx.cell? ⟨L,1,none⟩=some (.int .u8 (i:Int))/\wx.cell? ⟨L,2,none⟩=some (.string t.s.nm)/\wx.cell? ⟨L,3,none⟩=some (.slice ca t.s.cs.length cc)/\wx.cell? ⟨L,4,none⟩=some (.slice xa t.s.xs.length xc)) w1.drew):=⟨aAa HT1.o,aAa HT1.o,aAa HT1.o,aAa HT1.o,aAa HT1.o⟩;refine wp_region_noPanic ?_;refine wp_region_held_drew (S:=fun wx=>wx.cell? ⟨L,0,none⟩=some (.pointer (some ⟨db,0,none⟩))/\wx.cell? ⟨L,1,none⟩=some (.int .u8 (i:Int))/\wx.cell? ⟨L,2,none⟩=some (.string t.s.nm)/\wx.cell? ⟨L,3,none⟩=some (.slice ca t.s.cs.length cc)/\wx.cell? ⟨L,4,none⟩=some (.slice xa t.s.xs.length xc)) (by kernel_rfl) HX0.o (fun hHeld=>?_);generalize w1.drew=w1 at *
 refine aAb 0 7 ?_;refine aAb 1 8 ?_;refine aAb 2 9 ?_;refine aAb 4 11 ?_;refine aAf 3 ?_;intro K hK;go_simp;refine (at_zero (num:=i) (col:=0) HI4.o (by omega)).mono ?_;rintro e w2 ⟨a2,c2,rfl,hbs,hub,hb2⟩;have HT2:=aAc ((hb2.block L (aAe HT1.o)).trans HT1.o);have HB2:Hid (Below L w w2):=HB1.o.trans (hb2.mono (Nat.le_of_lt (aAe HT1.o)));have HD2:=aAc (HD1.o.later hb2);have HK2:Hid (BS w2 a2 2 c2 [i,0]/\UB w2 a2):=⟨hbs,hub⟩;clear hbs hub hb2 hHeld;refine hK.out _ _ ⟨aAa HT2.o,aAa HT2.o,aAa HT2.o,aAa HT2.o,aAa HT2.o⟩ (fun hHeld=>?_);clear hK K
 try simp only [Act.put,siT,scZ,scS]
 refine aAf 5 ?_;intro K hK;go_simp;refine (at_zero (num:=i) (col:=1) HI4.o (by omega)).mono ?_;rintro e w3 ⟨a3,c3,rfl,hbs,hub,hb3⟩;have HT3:=aAc ((hb3.block L (aAe HT2.o)).trans HT2.o);have HB3:Hid (Below L w w3):=HB2.o.trans (hb3.mono (Nat.le_of_lt (aAe HT2.o)));have HD3:=aAc (HD2.o.later hb3);have HK3:Hid (BS w3 a3 2 c3 [i,1]/\UB w3 a3):=⟨hbs,hub⟩;have HJ3:Hid (BS w3 a2 2 c2 [i,0]/\UB w3 a2):=⟨HK2.o.1.later hb3 (nR _),HK2.o.2.later hb3⟩;clear hbs hub hb3 hHeld;refine hK.out _ _ ⟨aAa HT3.o,aAa HT3.o,aAa HT3.o,aAa HT3.o,aAa HT3.o⟩ (fun hHeld=>?_);clear hK K
 try simp only [Act.put,siT,scZ,scS]
 refine aAf 6 ?_;intro K hK;go_simp;have hrg:=aBq (sp:=1) (most:=64) HD3.o.now HD3.o.dd HL.o (by omega) (aB9 HJ3.o.1 HJ3.o.2) (aB9 HK3.o.1 HK3.o.2) (by omega) (by omega) (by omega) (by omega);refine hrg.mono ?_;rintro e w4 ⟨v4,rfl,hps,hb4⟩;have HT4:=aAc ((hb4.block L (aAe HT3.o)).trans HT3.o);have HB4:Hid (Below L w w4):=HB3.o.trans (hb4.mono (Nat.le_of_lt (aAe HT3.o)));have HD4:=aAc (HD3.o.later hb4);obtain ⟨a4,c4,e4⟩:=hps.form;rw [show rngC cs ((1:Nat):Int) [i,0] [i,1] 64=rngC cs 1 [i,0] [i,1] 64 from rfl,HCN.o] at e4;subst e4;clear hrg hps hb4 hHeld;refine hK.out _ _ ⟨aAa HT4.o,aAa HT4.o,aAa HT4.o,aAa HT4.o,aAa HT4.o⟩ (fun hHeld=>?_);clear hK K
 try simp only [Act.put,siT,scZ,scS]
 refine aAb 7 6 ?_;refine aAb 8 14 ?_;refine aAb 9 15 ?_;refine aAb 10 4 ?_;refine aAb 11 5 ?_;refine wpAnyH_done (by kernel_rfl) ?_ _;refine NoPanic.normal ?_;clear hHeld;go_wp2;go_ret2;exact ⟨rfl,HB4.o⟩
theorem asr_so (v:Value) (w:World):(Instr.typeAssert (.iface 182 v) 113 182 true).run prog w=.ok (.tuple #[v,.bool true]) w:=by
 simp [Instr.typeAssert,run_underlying underlying182,go_sem,Result.andThen]
theorem asr_no (v:Value) (w:World):(Instr.typeAssert (.iface 181 v) 113 182 true).run prog w=.ok (.tuple #[.slice none 0 0,.bool false]) w:=by
 simp [Instr.typeAssert,run_underlying underlying182,Result.andThen]
theorem xk_eq {c:Int} {o:List Val} (h:col o c=col r c) (ho:(fst o).ok/\(fst o).err=0) (hr:(fst r).ok/\(fst r).err=0):(xk i c o=xk i c r)↔fst o=fst r:=by
 constructor
 ·intro e;unfold xk at e;rw [h] at e;simp only [List.cons.injEq,true_and] at e;exact bytes_inj ho.1 ho.2 hr.1 hr.2 (List.append_cancel_left e)
 ·intro e;unfold xk;rw [h,e]
theorem hps0 {v:Value} {F:List Ch} (h:PSW B B1 w v F):PSW B 0 w v F:=RwK.mono h fun _ _=>Nat.zero_le _
structure TRG (L M G:Nat) (dv:Value) (num:Nat) (nm:ByteArray) (ca:Option Addr) (cl cc:Nat) (xa:Option Addr) (xl xc:Nat) (pv:Value) (va:Option Addr) (vn vc cn:Nat) (xu:Bool) (w0 w:World):Prop where
 x:TRX L M dv num nm ca cl cc xa xl xc pv va vn vc w0 w
 g:w.heap[G]?=some (.cells #[.int .i64 (cn:Int),.bool xu] 61 (0,0))
theorem TRG.next {L M G:Nat} {cn:Nat} {xu:Bool} (h:TRG L M G dv num nm ca cl cc xa xl xc pv va vn vc cn xu w0 w) (hb:Below w.heap.size w w'):TRG L M G dv num nm ca cl cc xa xl xc pv va vn vc cn xu w0 w' :=
 ⟨h.x.next hb,(hb.block G (aAe h.g)).trans h.g⟩
theorem own_255:BS (w.alloc (.cells #[.int .u8 255] 5)) (some ⟨w.heap.size,0,none⟩) 1 1 [255]:=by
 refine ⟨rfl,by omega,by omega,by omega,fun n hn=>by simp at hn;omega,(fun q=>by cases q),fun x hx i hi=>?_⟩;cases hx;have:i=0:=by omega
 subst this;rw [add_plain];exact aAa (boxed w _)
theorem aDq {A:List Nat} (h:A.length<=58):(i::c::A).take 60=i::c::A:=List.take_of_length_le (by simp only [List.length_cons];omega)
theorem aH1 [Gd] {p g:Nat} {v:Value} {t:Tbl} (h:DR B p q g ls db v cs W w0 w) (I:Inv cs T) (hl:cs.length<=1000) (hti:T[i]?=some t) (hr:RowOk t.s r) (hv:HVs w va vn vc r) (hx:SVK fX 2 w xa xl xc t.s.xs) :
  Calls prog 60 #[.agg #[.pointer (some ⟨db,0,none⟩),.int .u8 (i:Int),.string t.s.nm,.slice ca t.s.cs.length cc,.slice xa xl xc],.agg #[pv,.slice va vn vc]] w fun e w'=>e=.returned (.int .i64 (if clash t.s t.rows r=true then 64 else 0))/\Below w.heap.size w w':=by
 obtain ⟨w1,hw1⟩:∃ w1,w1=(w.alloc (.cells #[.pointer (some ⟨db,0,none⟩),.int .u8 (i:Int),.string t.s.nm,.slice ca t.s.cs.length cc,.slice xa xl xc] 101)).alloc (.cells #[pv,.slice va vn vc] 119):=⟨_,rfl⟩;have ht:TRX w.heap.size (w.heap.size+1) (.pointer (some ⟨db,0,none⟩)) i t.s.nm ca t.s.cs.length cc xa xl xc pv va vn vc w w1:=by rw [hw1];exact TRX.new w
 obtain ⟨L,hL⟩:∃ L,w.heap.size=L:=⟨_,rfl⟩;obtain ⟨M,hM⟩:∃ M,L+1=M:=⟨_,rfl⟩;rw [hL,hM] at ht;have HX1:=aAc ht;have htm:=at_mem hti;have HOK:=aAc (I.ok t htm);have hi4:i<256:=by have:=(lL hti);have:=I.len;omega
 have HI4:=aAc hi4;have HD:=aAc h;have HI:=aAc I;have HLN:=aAc hl;have HTI:=aAc hti;have HR:=aAc hr;have HV:=aAc hv;have HIX:=aAc hx;have HXL:Hid (t.s.xs.length=xl):=hx.hl;have HX3:Hid (xl<=3):=by show xl<=3;rw [<-HXL.o];exact (Sch.parts (I.ok t htm)).2.2.1
 have HFV:Hid ((fst r).ok/\(fst r).err=0/\(fst r).bytes.length<=28):=hr.val (hr.fmem (I.ok t htm));have HF0:Hid (r[0]?=some (fst r)):=by
  show _=_;have:=hr.pos (I.ok t htm);rw [gE this];unfold fst;rw [List.getD_eq_getElem?_getD,gE this];rfl
 have HW1:=aAc hw1;have HLL:=aAc hL;obtain ⟨rv,hrv⟩:∃ rv:Int,(if clash t.s t.rows r=true then (64:Int) else 0)=rv:=⟨_,rfl⟩;have HRV:=aAc hrv;rw [hL,hrv];clear h I hl hti hr hv hx htm hi4 hw1 ht hrv;go_enter func60,ntmps60;go_upto_region 1 with fail;rw [<-HW1.o]
 try simp only [hL,hM]
 clear HW1;have y34:w1.cell? ⟨L,4,none⟩=some (.slice xa xl xc):=aAa HX1.o.t;go_wp2_with fail;clear y34;go_loopg [15] xl (fun gh s15 wx=>∃ j:Nat,j+gh=xl/\s15=.int .i64 (j:Int)/\(t.s.xs.take j).any (clashX t.rows r)=false/\TRX L M (.pointer (some ⟨db,0,none⟩)) i t.s.nm ca t.s.cs.length cc xa xl xc pv va vn vc w wx)
 case atStart=>exact ⟨0,by omega,rfl,rfl,HX1.o⟩
 case round =>
  obtain ⟨j,hj,rfl,hno,htr⟩:=hrel;have HNO:=aAc hno;have HTR:=aAc htr;clear hno htr HX1;by_cases hjn:j<xl
  ·have xj:(j:Int)<(xl:Int):=by omega
   have x6:(xl:Int)<=9223372036854775807:=by have:=HX3.o;omega
   obtain ⟨ix,hix⟩:∃ x,t.s.xs[j]?=some x:=⟨_,gE (by rw [HXL.o];exact hjn)⟩;have hxm:ix∈t.s.xs:=mG hix;have hcol:=Sch.xcol HOK.o ix hxm;have hcv:=HR.o.val (HR.o.cmem HOK.o hxm);have HXM:=aAc hxm;have HTK:Hid ((t.s.xs.take (j+1)).any (clashX t.rows r)=clashX t.rows r ix):=by
    show _=_;rw [List.take_add_one,hix,List.any_append,HNO.o,Bool.false_or];show (clashX t.rows r ix || false)=_;rw [Bool.or_false]
   obtain ⟨xb,xo,exa,hxb,hxc⟩:=HIX.o.pl (by omega);have q0:=hxc j ix hix 0 (by omega);have q1:=hxc j ix hix 1 (by omega);obtain ⟨xi,xu⟩:=ix;obtain ⟨cn,hcn⟩:∃ n:Nat,xi=(n:Int):=⟨xi.toNat,by have:=hcol.1;dsimp only at this;omega⟩;subst hcn;dsimp only at hcol hcv;have hrl:=HR.o.len;have hc3:=(Sch.c3 HOK.o).2;have HCG:Hid (r[cn]?=some (r.getD cn vz)):=by
    show _=_;rw [List.getD_eq_getElem?_getD,gE (by omega)];rfl
   have HCC:Hid (col r (cn:Int)=r.getD cn vz):=rfl;have HCV:Hid ((r.getD cn vz).ok/\(r.getD cn vz).err=0/\(r.getD cn vz).bytes.length<=28):=hcv;have HCP:Hid (0<(r.getD cn vz).bytes.length):=by
    obtain ⟨h9,_,_,h8⟩:=aB8 [] HCV.o.1 HCV.o.2.1;exact List.length_pos_iff.2 h8
   have HC2:Hid (cn<256):=by show cn<256;omega
   obtain ⟨vb,vo,ka,kn,kc,eva,hvb,hvc,hvbs⟩:=HV.o.at HCG.o;have hvl:cn<vn:=by have:=HV.o.len;omega
   have hvcap:vn<=vc:=by obtain ⟨_,hsv0,_⟩:=HV.o;exact hsv0.hc
   have hkn:(r.getD cn vz).bytes.length=kn:=hvbs.hlen;have hxcc:=HIX.o.hc;subst exa eva;have hbw:Below w.heap.size w wr:=HTR.o.be;have y34:wr.cell? ⟨L,4,none⟩=some (.slice (some ⟨xb,xo,none⟩) xl xc):=aAa HTR.o.t;have q0':wr.cell? ⟨xb,xo+j*2,none⟩=some (.int .i64 (cn:Int)):=(hbw.cell hxb).trans q0;have q1':wr.cell? ⟨xb,xo+j*2+1,none⟩=some (.bool xu):=(hbw.cell hxb).trans q1;have x5:(0:Int)<=(j:Int):=by omega
   have hbx:=aAg wr (.cells #[.int .i64 (cn:Int),.bool xu] 61);have HT3:Hid (TRG L M wr.heap.size (.pointer (some ⟨db,0,none⟩)) i t.s.nm ca t.s.cs.length cc (some ⟨xb,xo,none⟩) xl xc pv (some ⟨vb,vo,none⟩) vn vc cn xu w (wr.alloc (.cells #[.int .i64 (cn:Int),.bool xu] 61))):=⟨HTR.o.next hbx,boxed wr _⟩;have HVC:Hid (vb<w.heap.size/\w.cell? ⟨vb,vo+cn,none⟩=some (.iface (hT (r.getD cn vz)) (.slice ka kn kc))):=⟨hvb,hvc⟩;have HBV:Hid (BS w ka kn kc (r.getD cn vz).bytes):=hvbs;have HKN:Hid (kn<=28/\0<kn):=⟨by have:=HCV.o.2.2;omega,by have:=HCP.o;omega⟩;have HKE:=aAc hkn;clear q0 q1 hxc hcol hcv hix hxm hrl hc3 hvc hvbs hbx hbw hkn;go_upto_region 4 with fail;clear y34 q0' q1';generalize wr.alloc (.cells #[.int .i64 (cn:Int),.bool xu] 61)=w3 at *
   generalize wr.heap.size=G at *
   have m1:w3.cell? ⟨M,1,none⟩=some (.slice (some ⟨vb,vo,none⟩) vn vc):=aAa HT3.o.x.r;have g0:w3.cell? ⟨G,0,none⟩=some (.int .i64 (cn:Int)):=aAa HT3.o.g;have g1:w3.cell? ⟨G,1,none⟩=some (.bool xu):=aAa HT3.o.g;have vv:w3.cell? ⟨vb,vo+cn,none⟩=some (.iface (hT (r.getD cn vz)) (.slice ka kn kc)):=(HT3.o.x.be.cell HVC.o.1).trans HVC.o.2;have xc0:(0:Int)<=(cn:Int):=by omega
   have xc1:(cn:Int)<(vn:Int):=by omega
   have xc2:(vn:Int)<=(vc:Int):=by omega
   by_cases hz:(r.getD cn vz).1=0
   ·have ehT:hT (r.getD cn vz)=181:=if_pos hz;rw [ehT] at vv;have ta:=fun ww=>asr_no (.slice ka kn kc) ww
    have HCX:Hid (clashX t.rows r ((cn:Int),xu)=false):=by
     show (xu && (decide ((col r (cn:Int)).1≠0) && _))=false;rw [HCC.o,decide_eq_false (by rw [Decidable.not_not];exact hz),Bool.false_and,Bool.and_false]
    clear hz ehT;go_wp2;go_roundg (gk-1)
    case measure=>omega
    case rel=>exact ⟨j+1,by omega,rfl,by rw [HTK.o];exact HCX.o,HT3.o.x⟩
   ·have ehT:hT (r.getD cn vz)=182:=if_neg hz;rw [ehT] at vv;have ta:=fun ww=>asr_so (.slice ka kn kc) ww
    have HZ:=aAc hz;clear hz ehT
    cases xu with
    | false =>
     have HCX:Hid (clashX t.rows r ((cn:Int),false)=false):=rfl;go_wp2;go_roundg (gk-1)
     case measure=>omega
     case rel=>exact ⟨j+1,by omega,rfl,by rw [HTK.o];exact HCX.o,HT3.o.x⟩
    | true =>
     have HT4:Hid (TRG L M G (.pointer (some ⟨db,0,none⟩)) i t.s.nm ca t.s.cs.length cc (some ⟨xb,xo,none⟩) xl xc pv (some ⟨vb,vo,none⟩) vn vc cn true w w3.drew):=HT3.o.next (Below.refl _ _).drew;have HBV4:Hid (BS w3.drew ka kn kc (r.getD cn vz).bytes):=HBV.o.later HT4.o.x.be (nR _);go_upto_region 6 with fail;clear m1 g0 g1 vv ta;obtain ⟨Lr,hLr⟩:∃ Lr,rngC cs 1 (i::cn::(r.getD cn vz).bytes) (i::cn::((r.getD cn vz).bytes++[255])) 1=Lr:=⟨_,rfl⟩;obtain ⟨nl,hnl⟩:∃ nl,Lr.length=nl:=⟨_,rfl⟩;have HLr:=aAc hLr;have HNL:=aAc hnl;clear hLr hnl;go_cut [9,10,15] from 15 to 76 (fun s9 s10 s15 wx=>s15=.int .i64 (j:Int)/\s10=.int .i64 0/\∃ a9 c9,s9=.slice a9 nl c9/\TRG L M G (.pointer (some ⟨db,0,none⟩)) i t.s.nm ca t.s.cs.length cc (some ⟨xb,xo,none⟩) xl xc pv (some ⟨vb,vo,none⟩) vn vc cn true w wx/\PSW B 0 wx (.slice a9 nl c9) Lr)
     case first =>
      have HX0:Hid ((fun wx:World=>wx.cell? ⟨L,0,none⟩=some (.pointer (some ⟨db,0,none⟩))/\wx.cell? ⟨L,1,none⟩=some (.int .u8 (i:Int))/\wx.cell? ⟨L,2,none⟩=some (.string t.s.nm)/\wx.cell? ⟨L,3,none⟩=some (.slice ca t.s.cs.length cc)/\wx.cell? ⟨L,4,none⟩=some (.slice (some ⟨xb,xo,none⟩) xl xc)/\wx.cell? ⟨G,0,none⟩=some (.int .i64 (cn:Int))) w3.drew):=⟨aAa HT4.o.x.t,aAa HT4.o.x.t,aAa HT4.o.x.t,aAa HT4.o.x.t,aAa HT4.o.x.t,aAa HT4.o.g⟩;refine wp_region_noPanic ?_;refine wp_region_held_drew (S:=fun wx=>wx.cell? ⟨L,0,none⟩=some (.pointer (some ⟨db,0,none⟩))/\wx.cell? ⟨L,1,none⟩=some (.int .u8 (i:Int))/\wx.cell? ⟨L,2,none⟩=some (.string t.s.nm)/\wx.cell? ⟨L,3,none⟩=some (.slice ca t.s.cs.length cc)/\wx.cell? ⟨L,4,none⟩=some (.slice (some ⟨xb,xo,none⟩) xl xc)/\wx.cell? ⟨G,0,none⟩=some (.int .i64 (cn:Int))) (by kernel_rfl) HX0.o (fun hHeld=>?_);generalize w3.drew=w4 at *
      refine aAb 0 37 ?_;refine aAb 1 38 ?_;refine aAb 2 39 ?_;refine aAb 3 40 ?_;refine aAb 4 41 ?_;refine aAb 5 42 ?_;refine aAb 8 45 ?_;refine aAb 9 46 ?_;refine aAb 10 47 ?_;refine aAb 11 48 ?_;refine aAo (i:=6) (j:=12) (by kernel_rfl) (by kernel_rfl) (by kernel_rfl) ?za1 ?zb1
      case za1 =>
       intro o ho K hK;simp only [tG,sG,zG,oI] at ho;subst ho;go_simp;have hbx:=aAg w4 (.cells #[.slice ka kn kc] 97);have HT5:=aAc (HT4.o.next hbx);have HBV5:=aAc (HBV4.o.later hbx (nR _));have HP15:Hid ((w4.alloc (.cells #[.slice ka kn kc] 97)).cell? ⟨w4.heap.size,0,none⟩=some (.slice ka kn kc)):=aEg _;clear hbx hHeld;refine hK.out _ _ ⟨aAa HT5.o.x.t,aAa HT5.o.x.t,aAa HT5.o.x.t,aAa HT5.o.x.t,aAa HT5.o.x.t,aAa HT5.o.g⟩ (fun hHeld=>?_);generalize w4.alloc (.cells #[.slice ka kn kc] 97)=w5 at *
       generalize w4.heap.size=p1 at *
       clear hK K
       try simp only [Act.put,siT,scZ,scS]
       refine aAo (i:=7) (j:=12) (by kernel_rfl) (by kernel_rfl) (by kernel_rfl) ?za2 ?zb2
       case za2 =>
        intro o ho K hK;simp only [tG,sG,zG,oI] at ho;subst ho;go_simp;refine (aEp (ys:=(r.getD cn vz).bytes) HI4.o HC2.o HBV5.o.hlen (by have:=HKN.o;omega) HKN.o.2 HBV5.o.hbyte (fun ww hb=>join_one _ ((hb.cell (aAn HP15.o)).trans HP15.o) (HBV5.o.later hb (nR _)) HKN.o.2)).mono ?_;rintro e w6 ⟨k1a,k1c,rfl,hbs,hub,hbl⟩;rw [aDq (by have:=HCV.o.2.2;omega)] at hbs;have HT6:=aAc (HT5.o.next hbl);have HBV6:=aAc (HBV5.o.later hbl (nR _));have HK16:=aAc (And.intro hbs hub);clear hbs hub hbl hHeld;refine hK.out _ _ ⟨aAa HT6.o.x.t,aAa HT6.o.x.t,aAa HT6.o.x.t,aAa HT6.o.x.t,aAa HT6.o.x.t,aAa HT6.o.g⟩ (fun hHeld=>?_);clear hK K
        try simp only [Act.put,siT,scZ,scS]
        refine aAf 12 ?_;intro K hK;go_simp;have hbx:=aAg w6 (.cells #[.int .u8 255] 5);have HT7:=aAc (HT6.o.next hbx);have HBV7:=aAc (HBV6.o.later hbx (nR _));have HK17:=aAc (And.intro (HK16.o.1.later hbx (nR _)) (HK16.o.2.later hbx));have HF7:Hid (BS (w6.alloc (.cells #[.int .u8 255] 5)) (some ⟨w6.heap.size,0,none⟩) 1 1 [255]):=own_255;clear hbx hHeld;refine hK.out _ _ ⟨aAa HT7.o.x.t,aAa HT7.o.x.t,aAa HT7.o.x.t,aAa HT7.o.x.t,aAa HT7.o.x.t,aAa HT7.o.g⟩ (fun hHeld=>?_);generalize w6.alloc (.cells #[.int .u8 255] 5)=w7 at *
        generalize w6.heap.size=fb at *
        clear hK K
        try simp only [Act.put,siT,scZ,scS]
        refine aAf 13 ?_;intro K hK;go_simp;have hbx:=aAg w7 (.cells #[.slice ka kn kc,.slice (some ⟨fb,0,none⟩) 1 1] 97);have HT8:=aAc (HT7.o.next hbx);have HBV8:=aAc (HBV7.o.later hbx (nR _));have HK18:=aAc (And.intro (HK17.o.1.later hbx (nR _)) (HK17.o.2.later hbx));have HF8:=aAc (HF7.o.later hbx (nR _));have HP28:=aAc (aCe w7 (.slice ka kn kc) (.slice (some ⟨fb,0,none⟩) 1 1) 97);clear hbx hHeld;refine hK.out _ _ ⟨aAa HT8.o.x.t,aAa HT8.o.x.t,aAa HT8.o.x.t,aAa HT8.o.x.t,aAa HT8.o.x.t,aAa HT8.o.g⟩ (fun hHeld=>?_);generalize w7.alloc (.cells #[.slice ka kn kc,.slice (some ⟨fb,0,none⟩) 1 1] 97)=w8 at *
        generalize w7.heap.size=p2 at *
        clear hK K
        try simp only [Act.put,siT,scZ,scS]
        refine aAf 14 ?_;intro K hK;go_simp;refine (aEp (m:=kn+1) (ys:=(r.getD cn vz).bytes++[255]) HI4.o HC2.o (by rw [lA,HKE.o];rfl) (by have:=HKN.o;omega) (by omega) (fun n hn=>by rcases List.mem_append.1 hn with q | q;exact HBV8.o.hbyte n q;exact HF8.o.hbyte n q) (fun ww hb=>aDh ((hb.cell (aAn HP28.o.1)).trans HP28.o.1) ((hb.cell (aAn HP28.o.2)).trans HP28.o.2) (HBV8.o.later hb (nR _)) (HF8.o.later hb (nR _)) (nR _) (by have:=HKN.o;omega) (by omega))).mono ?_;rintro e w9 ⟨k2a,k2c,rfl,hbs,hub,hbl⟩;rw [aDq (by rw [lA];have:=HCV.o.2.2;show _+1<=_;omega)] at hbs;have HT9:=aAc (HT8.o.next hbl);have HBV9:=aAc (HBV8.o.later hbl (nR _));have HK19:=aAc (And.intro (HK18.o.1.later hbl (nR _)) (HK18.o.2.later hbl));have HK29:=aAc (And.intro hbs hub);clear hbs hub hbl hHeld;refine hK.out _ _ ⟨aAa HT9.o.x.t,aAa HT9.o.x.t,aAa HT9.o.x.t,aAa HT9.o.x.t,aAa HT9.o.x.t,aAa HT9.o.g⟩ (fun hHeld=>?_);clear hK K
        try simp only [Act.put,siT,scZ,scS]
        refine aAf 15 ?_;intro K hK;go_simp;have HDR:=aAc (HD.o.later HT9.o.x.be);have hrg:=aBq (sp:=1) (most:=1) HDR.o.now HDR.o.dd HLN.o (by omega) (aB9 HK19.o.1 HK19.o.2) (aB9 HK29.o.1 HK29.o.2) (by omega) (by omega) (by omega) (by omega);refine hrg.mono ?_;rintro e w10 ⟨v9,rfl,hps,hbl⟩;rw [show rngC cs ((1:Nat):Int)=rngC cs 1 from rfl,HLr.o] at hps;obtain ⟨a9,c9,e9⟩:=hps.form;rw [HNL.o] at e9;subst e9;have HT10:=aAc (HT9.o.next hbl);have HBV10:=aAc (HBV9.o.later hbl (nR _));have HPS:=aAc hps;clear hrg hps hbl hHeld HDR;refine hK.out _ _ ⟨aAa HT10.o.x.t,aAa HT10.o.x.t,aAa HT10.o.x.t,aAa HT10.o.x.t,aAa HT10.o.x.t,aAa HT10.o.g⟩ (fun hHeld=>?_);clear hK K
        try simp only [Act.put,siT,scZ,scS]
        refine aAb 16 36 ?_;refine aAb 17 53 ?_;refine aAb 18 54 ?_;refine aAb 19 9 ?_;refine aAb 20 10 ?_;refine wpAnyH_done (by kernel_rfl) ?_ _;refine NoPanic.normal ?_;clear hHeld;have HPZ:=aAc (hps0 HPS.o);go_wp2;go_meet;exact ⟨rfl,rfl,_,_,rfl,HT10.o,HPZ.o⟩
       case zb2 =>
        intro o ho K hK;simp only [tG,sG,zG,oI] at ho;subst ho;go_simp;have hbx:=aAg w5 (.cells #[.int .u8 255] 5);have HT6:=aAc (HT5.o.next hbx);have HBV6:=aAc (HBV5.o.later hbx (nR _));have HP16:=aAc ((hbx.cell (aAn HP15.o)).trans HP15.o);have HF6:Hid (BS (w5.alloc (.cells #[.int .u8 255] 5)) (some ⟨w5.heap.size,0,none⟩) 1 1 [255]):=own_255;clear hbx hHeld;refine hK.out _ _ ⟨aAa HT6.o.x.t,aAa HT6.o.x.t,aAa HT6.o.x.t,aAa HT6.o.x.t,aAa HT6.o.x.t,aAa HT6.o.g⟩ (fun hHeld=>?_);generalize w5.alloc (.cells #[.int .u8 255] 5)=w6 at *
        generalize w5.heap.size=fb at *
        clear hK K
        try simp only [Act.put,siT,scZ,scS]
        refine aAo (i:=7) (j:=13) (by kernel_rfl) (by kernel_rfl) (by kernel_rfl) ?za4 ?zb4
        case za4 =>
         intro o ho K hK;simp only [tG,sG,zG,oI] at ho;subst ho;go_simp;refine (aEp (ys:=(r.getD cn vz).bytes) HI4.o HC2.o HBV6.o.hlen (by have:=HKN.o;omega) HKN.o.2 HBV6.o.hbyte (fun ww hb=>join_one _ ((hb.cell (aAn HP16.o)).trans HP16.o) (HBV6.o.later hb (nR _)) HKN.o.2)).mono ?_;rintro e w7 ⟨k1a,k1c,rfl,hbs,hub,hbl⟩;rw [aDq (by have:=HCV.o.2.2;omega)] at hbs;have HT7:=aAc (HT6.o.next hbl);have HBV7:=aAc (HBV6.o.later hbl (nR _));have HF7:=aAc (HF6.o.later hbl (nR _));have HK17:=aAc (And.intro hbs hub);clear hbs hub hbl hHeld;refine hK.out _ _ ⟨aAa HT7.o.x.t,aAa HT7.o.x.t,aAa HT7.o.x.t,aAa HT7.o.x.t,aAa HT7.o.x.t,aAa HT7.o.g⟩ (fun hHeld=>?_);clear hK K
         try simp only [Act.put,siT,scZ,scS]
         refine aAf 13 ?_;intro K hK;go_simp;have hbx:=aAg w7 (.cells #[.slice ka kn kc,.slice (some ⟨fb,0,none⟩) 1 1] 97);have HT8:=aAc (HT7.o.next hbx);have HBV8:=aAc (HBV7.o.later hbx (nR _));have HF8:=aAc (HF7.o.later hbx (nR _));have HK18:=aAc (And.intro (HK17.o.1.later hbx (nR _)) (HK17.o.2.later hbx));have HP28:=aAc (aCe w7 (.slice ka kn kc) (.slice (some ⟨fb,0,none⟩) 1 1) 97);clear hbx hHeld;refine hK.out _ _ ⟨aAa HT8.o.x.t,aAa HT8.o.x.t,aAa HT8.o.x.t,aAa HT8.o.x.t,aAa HT8.o.x.t,aAa HT8.o.g⟩ (fun hHeld=>?_);generalize w7.alloc (.cells #[.slice ka kn kc,.slice (some ⟨fb,0,none⟩) 1 1] 97)=w8 at *
         generalize w7.heap.size=p2 at *
         clear hK K
         try simp only [Act.put,siT,scZ,scS]
         refine aAf 14 ?_;intro K hK;go_simp;refine (aEp (m:=kn+1) (ys:=(r.getD cn vz).bytes++[255]) HI4.o HC2.o (by rw [lA,HKE.o];rfl) (by have:=HKN.o;omega) (by omega) (fun n hn=>by rcases List.mem_append.1 hn with q | q;exact HBV8.o.hbyte n q;exact HF8.o.hbyte n q) (fun ww hb=>aDh ((hb.cell (aAn HP28.o.1)).trans HP28.o.1) ((hb.cell (aAn HP28.o.2)).trans HP28.o.2) (HBV8.o.later hb (nR _)) (HF8.o.later hb (nR _)) (nR _) (by have:=HKN.o;omega) (by omega))).mono ?_;rintro e w9 ⟨k2a,k2c,rfl,hbs,hub,hbl⟩;rw [aDq (by rw [lA];have:=HCV.o.2.2;show _+1<=_;omega)] at hbs;have HT9:=aAc (HT8.o.next hbl);have HBV9:=aAc (HBV8.o.later hbl (nR _));have HK19:=aAc (And.intro (HK18.o.1.later hbl (nR _)) (HK18.o.2.later hbl));have HK29:=aAc (And.intro hbs hub);clear hbs hub hbl hHeld;refine hK.out _ _ ⟨aAa HT9.o.x.t,aAa HT9.o.x.t,aAa HT9.o.x.t,aAa HT9.o.x.t,aAa HT9.o.x.t,aAa HT9.o.g⟩ (fun hHeld=>?_);clear hK K
         try simp only [Act.put,siT,scZ,scS]
         refine aAf 15 ?_;intro K hK;go_simp;have HDR:=aAc (HD.o.later HT9.o.x.be);have hrg:=aBq (sp:=1) (most:=1) HDR.o.now HDR.o.dd HLN.o (by omega) (aB9 HK19.o.1 HK19.o.2) (aB9 HK29.o.1 HK29.o.2) (by omega) (by omega) (by omega) (by omega);refine hrg.mono ?_;rintro e w10 ⟨v9,rfl,hps,hbl⟩;rw [show rngC cs ((1:Nat):Int)=rngC cs 1 from rfl,HLr.o] at hps;obtain ⟨a9,c9,e9⟩:=hps.form;rw [HNL.o] at e9;subst e9;have HT10:=aAc (HT9.o.next hbl);have HBV10:=aAc (HBV9.o.later hbl (nR _));have HPS:=aAc hps;clear hrg hps hbl hHeld HDR;refine hK.out _ _ ⟨aAa HT10.o.x.t,aAa HT10.o.x.t,aAa HT10.o.x.t,aAa HT10.o.x.t,aAa HT10.o.x.t,aAa HT10.o.g⟩ (fun hHeld=>?_);clear hK K
         try simp only [Act.put,siT,scZ,scS]
         refine aAb 16 36 ?_;refine aAb 17 53 ?_;refine aAb 18 54 ?_;refine aAb 19 9 ?_;refine aAb 20 10 ?_;refine wpAnyH_done (by kernel_rfl) ?_ _;refine NoPanic.normal ?_;clear hHeld;have HPZ:=aAc (hps0 HPS.o);go_wp2;go_meet;exact ⟨rfl,rfl,_,_,rfl,HT10.o,HPZ.o⟩
        case zb4 =>
         intro o ho K hK;simp only [tG,sG,zG,oI] at ho;subst ho;go_simp;have hbx:=aAg w6 (.cells #[.slice ka kn kc,.slice (some ⟨fb,0,none⟩) 1 1] 97);have HT7:=aAc (HT6.o.next hbx);have HBV7:=aAc (HBV6.o.later hbx (nR _));have HP17:=aAc ((hbx.cell (aAn HP16.o)).trans HP16.o);have HF7:=aAc (HF6.o.later hbx (nR _));have HP27:=aAc (aCe w6 (.slice ka kn kc) (.slice (some ⟨fb,0,none⟩) 1 1) 97);clear hbx hHeld;refine hK.out _ _ ⟨aAa HT7.o.x.t,aAa HT7.o.x.t,aAa HT7.o.x.t,aAa HT7.o.x.t,aAa HT7.o.x.t,aAa HT7.o.g⟩ (fun hHeld=>?_);generalize w6.alloc (.cells #[.slice ka kn kc,.slice (some ⟨fb,0,none⟩) 1 1] 97)=w7 at *
         generalize w6.heap.size=p2 at *
         clear hK K
         try simp only [Act.put,siT,scZ,scS]
         refine aAf 7 ?_;intro K hK;go_simp;refine (aEp (ys:=(r.getD cn vz).bytes) HI4.o HC2.o HBV7.o.hlen (by have:=HKN.o;omega) HKN.o.2 HBV7.o.hbyte (fun ww hb=>join_one _ ((hb.cell (aAn HP17.o)).trans HP17.o) (HBV7.o.later hb (nR _)) HKN.o.2)).mono ?_;rintro e w8 ⟨k1a,k1c,rfl,hbs,hub,hbl⟩;rw [aDq (by have:=HCV.o.2.2;omega)] at hbs;have HT8:=aAc (HT7.o.next hbl);have HBV8:=aAc (HBV7.o.later hbl (nR _));have HP28:=aAc (And.intro ((hbl.cell (aAn HP27.o.1)).trans HP27.o.1) ((hbl.cell (aAn HP27.o.2)).trans HP27.o.2));have HF8:=aAc (HF7.o.later hbl (nR _));have HK18:=aAc (And.intro hbs hub);clear hbs hub hbl hHeld;refine hK.out _ _ ⟨aAa HT8.o.x.t,aAa HT8.o.x.t,aAa HT8.o.x.t,aAa HT8.o.x.t,aAa HT8.o.x.t,aAa HT8.o.g⟩ (fun hHeld=>?_);clear hK K
         try simp only [Act.put,siT,scZ,scS]
         refine aAf 14 ?_;intro K hK;go_simp;refine (aEp (m:=kn+1) (ys:=(r.getD cn vz).bytes++[255]) HI4.o HC2.o (by rw [lA,HKE.o];rfl) (by have:=HKN.o;omega) (by omega) (fun n hn=>by rcases List.mem_append.1 hn with q | q;exact HBV8.o.hbyte n q;exact HF8.o.hbyte n q) (fun ww hb=>aDh ((hb.cell (aAn HP28.o.1)).trans HP28.o.1) ((hb.cell (aAn HP28.o.2)).trans HP28.o.2) (HBV8.o.later hb (nR _)) (HF8.o.later hb (nR _)) (nR _) (by have:=HKN.o;omega) (by omega))).mono ?_;rintro e w9 ⟨k2a,k2c,rfl,hbs,hub,hbl⟩;rw [aDq (by rw [lA];have:=HCV.o.2.2;show _+1<=_;omega)] at hbs;have HT9:=aAc (HT8.o.next hbl);have HBV9:=aAc (HBV8.o.later hbl (nR _));have HK19:=aAc (And.intro (HK18.o.1.later hbl (nR _)) (HK18.o.2.later hbl));have HK29:=aAc (And.intro hbs hub);clear hbs hub hbl hHeld;refine hK.out _ _ ⟨aAa HT9.o.x.t,aAa HT9.o.x.t,aAa HT9.o.x.t,aAa HT9.o.x.t,aAa HT9.o.x.t,aAa HT9.o.g⟩ (fun hHeld=>?_);clear hK K
         try simp only [Act.put,siT,scZ,scS]
         refine aAf 15 ?_;intro K hK;go_simp;have HDR:=aAc (HD.o.later HT9.o.x.be);have hrg:=aBq (sp:=1) (most:=1) HDR.o.now HDR.o.dd HLN.o (by omega) (aB9 HK19.o.1 HK19.o.2) (aB9 HK29.o.1 HK29.o.2) (by omega) (by omega) (by omega) (by omega);refine hrg.mono ?_;rintro e w10 ⟨v9,rfl,hps,hbl⟩;rw [show rngC cs ((1:Nat):Int)=rngC cs 1 from rfl,HLr.o] at hps;obtain ⟨a9,c9,e9⟩:=hps.form;rw [HNL.o] at e9;subst e9;have HT10:=aAc (HT9.o.next hbl);have HBV10:=aAc (HBV9.o.later hbl (nR _));have HPS:=aAc hps;clear hrg hps hbl hHeld HDR;refine hK.out _ _ ⟨aAa HT10.o.x.t,aAa HT10.o.x.t,aAa HT10.o.x.t,aAa HT10.o.x.t,aAa HT10.o.x.t,aAa HT10.o.g⟩ (fun hHeld=>?_);clear hK K
         try simp only [Act.put,siT,scZ,scS]
         refine aAb 16 36 ?_;refine aAb 17 53 ?_;refine aAb 18 54 ?_;refine aAb 19 9 ?_;refine aAb 20 10 ?_;refine wpAnyH_done (by kernel_rfl) ?_ _;refine NoPanic.normal ?_;clear hHeld;have HPZ:=aAc (hps0 HPS.o);go_wp2;go_meet;exact ⟨rfl,rfl,_,_,rfl,HT10.o,HPZ.o⟩
      case zb1 =>
       intro o ho K hK;simp only [tG,sG,zG,oI] at ho;subst ho;go_simp;have hbx:=aAg w4 (.cells #[.int .u8 255] 5);have HT5:=aAc (HT4.o.next hbx);have HBV5:=aAc (HBV4.o.later hbx (nR _));have HF5:Hid (BS (w4.alloc (.cells #[.int .u8 255] 5)) (some ⟨w4.heap.size,0,none⟩) 1 1 [255]):=own_255;clear hbx hHeld;refine hK.out _ _ ⟨aAa HT5.o.x.t,aAa HT5.o.x.t,aAa HT5.o.x.t,aAa HT5.o.x.t,aAa HT5.o.x.t,aAa HT5.o.g⟩ (fun hHeld=>?_);generalize w4.alloc (.cells #[.int .u8 255] 5)=w5 at *
       generalize w4.heap.size=fb at *
       clear hK K
       try simp only [Act.put,siT,scZ,scS]
       refine aAo (i:=6) (j:=13) (by kernel_rfl) (by kernel_rfl) (by kernel_rfl) ?za7 ?zb7
       case za7 =>
        intro o ho K hK;simp only [tG,sG,zG,oI] at ho;subst ho;go_simp;have hbx:=aAg w5 (.cells #[.slice ka kn kc] 97);have HT6:=aAc (HT5.o.next hbx);have HBV6:=aAc (HBV5.o.later hbx (nR _));have HF6:=aAc (HF5.o.later hbx (nR _));have HP16:Hid ((w5.alloc (.cells #[.slice ka kn kc] 97)).cell? ⟨w5.heap.size,0,none⟩=some (.slice ka kn kc)):=aEg _;clear hbx hHeld;refine hK.out _ _ ⟨aAa HT6.o.x.t,aAa HT6.o.x.t,aAa HT6.o.x.t,aAa HT6.o.x.t,aAa HT6.o.x.t,aAa HT6.o.g⟩ (fun hHeld=>?_);generalize w5.alloc (.cells #[.slice ka kn kc] 97)=w6 at *
        generalize w5.heap.size=p1 at *
        clear hK K
        try simp only [Act.put,siT,scZ,scS]
        refine aAo (i:=7) (j:=13) (by kernel_rfl) (by kernel_rfl) (by kernel_rfl) ?za8 ?zb8
        case za8 =>
         intro o ho K hK;simp only [tG,sG,zG,oI] at ho;subst ho;go_simp;refine (aEp (ys:=(r.getD cn vz).bytes) HI4.o HC2.o HBV6.o.hlen (by have:=HKN.o;omega) HKN.o.2 HBV6.o.hbyte (fun ww hb=>join_one _ ((hb.cell (aAn HP16.o)).trans HP16.o) (HBV6.o.later hb (nR _)) HKN.o.2)).mono ?_;rintro e w7 ⟨k1a,k1c,rfl,hbs,hub,hbl⟩;rw [aDq (by have:=HCV.o.2.2;omega)] at hbs;have HT7:=aAc (HT6.o.next hbl);have HBV7:=aAc (HBV6.o.later hbl (nR _));have HF7:=aAc (HF6.o.later hbl (nR _));have HK17:=aAc (And.intro hbs hub);clear hbs hub hbl hHeld;refine hK.out _ _ ⟨aAa HT7.o.x.t,aAa HT7.o.x.t,aAa HT7.o.x.t,aAa HT7.o.x.t,aAa HT7.o.x.t,aAa HT7.o.g⟩ (fun hHeld=>?_);clear hK K
         try simp only [Act.put,siT,scZ,scS]
         refine aAf 13 ?_;intro K hK;go_simp;have hbx:=aAg w7 (.cells #[.slice ka kn kc,.slice (some ⟨fb,0,none⟩) 1 1] 97);have HT8:=aAc (HT7.o.next hbx);have HBV8:=aAc (HBV7.o.later hbx (nR _));have HF8:=aAc (HF7.o.later hbx (nR _));have HK18:=aAc (And.intro (HK17.o.1.later hbx (nR _)) (HK17.o.2.later hbx));have HP28:=aAc (aCe w7 (.slice ka kn kc) (.slice (some ⟨fb,0,none⟩) 1 1) 97);clear hbx hHeld;refine hK.out _ _ ⟨aAa HT8.o.x.t,aAa HT8.o.x.t,aAa HT8.o.x.t,aAa HT8.o.x.t,aAa HT8.o.x.t,aAa HT8.o.g⟩ (fun hHeld=>?_);generalize w7.alloc (.cells #[.slice ka kn kc,.slice (some ⟨fb,0,none⟩) 1 1] 97)=w8 at *
         generalize w7.heap.size=p2 at *
         clear hK K
         try simp only [Act.put,siT,scZ,scS]
         refine aAf 14 ?_;intro K hK;go_simp;refine (aEp (m:=kn+1) (ys:=(r.getD cn vz).bytes++[255]) HI4.o HC2.o (by rw [lA,HKE.o];rfl) (by have:=HKN.o;omega) (by omega) (fun n hn=>by rcases List.mem_append.1 hn with q | q;exact HBV8.o.hbyte n q;exact HF8.o.hbyte n q) (fun ww hb=>aDh ((hb.cell (aAn HP28.o.1)).trans HP28.o.1) ((hb.cell (aAn HP28.o.2)).trans HP28.o.2) (HBV8.o.later hb (nR _)) (HF8.o.later hb (nR _)) (nR _) (by have:=HKN.o;omega) (by omega))).mono ?_;rintro e w9 ⟨k2a,k2c,rfl,hbs,hub,hbl⟩;rw [aDq (by rw [lA];have:=HCV.o.2.2;show _+1<=_;omega)] at hbs;have HT9:=aAc (HT8.o.next hbl);have HBV9:=aAc (HBV8.o.later hbl (nR _));have HK19:=aAc (And.intro (HK18.o.1.later hbl (nR _)) (HK18.o.2.later hbl));have HK29:=aAc (And.intro hbs hub);clear hbs hub hbl hHeld;refine hK.out _ _ ⟨aAa HT9.o.x.t,aAa HT9.o.x.t,aAa HT9.o.x.t,aAa HT9.o.x.t,aAa HT9.o.x.t,aAa HT9.o.g⟩ (fun hHeld=>?_);clear hK K
         try simp only [Act.put,siT,scZ,scS]
         refine aAf 15 ?_;intro K hK;go_simp;have HDR:=aAc (HD.o.later HT9.o.x.be);have hrg:=aBq (sp:=1) (most:=1) HDR.o.now HDR.o.dd HLN.o (by omega) (aB9 HK19.o.1 HK19.o.2) (aB9 HK29.o.1 HK29.o.2) (by omega) (by omega) (by omega) (by omega);refine hrg.mono ?_;rintro e w10 ⟨v9,rfl,hps,hbl⟩;rw [show rngC cs ((1:Nat):Int)=rngC cs 1 from rfl,HLr.o] at hps;obtain ⟨a9,c9,e9⟩:=hps.form;rw [HNL.o] at e9;subst e9;have HT10:=aAc (HT9.o.next hbl);have HBV10:=aAc (HBV9.o.later hbl (nR _));have HPS:=aAc hps;clear hrg hps hbl hHeld HDR;refine hK.out _ _ ⟨aAa HT10.o.x.t,aAa HT10.o.x.t,aAa HT10.o.x.t,aAa HT10.o.x.t,aAa HT10.o.x.t,aAa HT10.o.g⟩ (fun hHeld=>?_);clear hK K
         try simp only [Act.put,siT,scZ,scS]
         refine aAb 16 36 ?_;refine aAb 17 53 ?_;refine aAb 18 54 ?_;refine aAb 19 9 ?_;refine aAb 20 10 ?_;refine wpAnyH_done (by kernel_rfl) ?_ _;refine NoPanic.normal ?_;clear hHeld;have HPZ:=aAc (hps0 HPS.o);go_wp2;go_meet;exact ⟨rfl,rfl,_,_,rfl,HT10.o,HPZ.o⟩
        case zb8 =>
         intro o ho K hK;simp only [tG,sG,zG,oI] at ho;subst ho;go_simp;have hbx:=aAg w6 (.cells #[.slice ka kn kc,.slice (some ⟨fb,0,none⟩) 1 1] 97);have HT7:=aAc (HT6.o.next hbx);have HBV7:=aAc (HBV6.o.later hbx (nR _));have HF7:=aAc (HF6.o.later hbx (nR _));have HP17:=aAc ((hbx.cell (aAn HP16.o)).trans HP16.o);have HP27:=aAc (aCe w6 (.slice ka kn kc) (.slice (some ⟨fb,0,none⟩) 1 1) 97);clear hbx hHeld;refine hK.out _ _ ⟨aAa HT7.o.x.t,aAa HT7.o.x.t,aAa HT7.o.x.t,aAa HT7.o.x.t,aAa HT7.o.x.t,aAa HT7.o.g⟩ (fun hHeld=>?_);generalize w6.alloc (.cells #[.slice ka kn kc,.slice (some ⟨fb,0,none⟩) 1 1] 97)=w7 at *
         generalize w6.heap.size=p2 at *
         clear hK K
         try simp only [Act.put,siT,scZ,scS]
         refine aAf 7 ?_;intro K hK;go_simp;refine (aEp (ys:=(r.getD cn vz).bytes) HI4.o HC2.o HBV7.o.hlen (by have:=HKN.o;omega) HKN.o.2 HBV7.o.hbyte (fun ww hb=>join_one _ ((hb.cell (aAn HP17.o)).trans HP17.o) (HBV7.o.later hb (nR _)) HKN.o.2)).mono ?_;rintro e w8 ⟨k1a,k1c,rfl,hbs,hub,hbl⟩;rw [aDq (by have:=HCV.o.2.2;omega)] at hbs;have HT8:=aAc (HT7.o.next hbl);have HBV8:=aAc (HBV7.o.later hbl (nR _));have HP28:=aAc (And.intro ((hbl.cell (aAn HP27.o.1)).trans HP27.o.1) ((hbl.cell (aAn HP27.o.2)).trans HP27.o.2));have HF8:=aAc (HF7.o.later hbl (nR _));have HK18:=aAc (And.intro hbs hub);clear hbs hub hbl hHeld;refine hK.out _ _ ⟨aAa HT8.o.x.t,aAa HT8.o.x.t,aAa HT8.o.x.t,aAa HT8.o.x.t,aAa HT8.o.x.t,aAa HT8.o.g⟩ (fun hHeld=>?_);clear hK K
         try simp only [Act.put,siT,scZ,scS]
         refine aAf 14 ?_;intro K hK;go_simp;refine (aEp (m:=kn+1) (ys:=(r.getD cn vz).bytes++[255]) HI4.o HC2.o (by rw [lA,HKE.o];rfl) (by have:=HKN.o;omega) (by omega) (fun n hn=>by rcases List.mem_append.1 hn with q | q;exact HBV8.o.hbyte n q;exact HF8.o.hbyte n q) (fun ww hb=>aDh ((hb.cell (aAn HP28.o.1)).trans HP28.o.1) ((hb.cell (aAn HP28.o.2)).trans HP28.o.2) (HBV8.o.later hb (nR _)) (HF8.o.later hb (nR _)) (nR _) (by have:=HKN.o;omega) (by omega))).mono ?_;rintro e w9 ⟨k2a,k2c,rfl,hbs,hub,hbl⟩;rw [aDq (by rw [lA];have:=HCV.o.2.2;show _+1<=_;omega)] at hbs;have HT9:=aAc (HT8.o.next hbl);have HBV9:=aAc (HBV8.o.later hbl (nR _));have HK19:=aAc (And.intro (HK18.o.1.later hbl (nR _)) (HK18.o.2.later hbl));have HK29:=aAc (And.intro hbs hub);clear hbs hub hbl hHeld;refine hK.out _ _ ⟨aAa HT9.o.x.t,aAa HT9.o.x.t,aAa HT9.o.x.t,aAa HT9.o.x.t,aAa HT9.o.x.t,aAa HT9.o.g⟩ (fun hHeld=>?_);clear hK K
         try simp only [Act.put,siT,scZ,scS]
         refine aAf 15 ?_;intro K hK;go_simp;have HDR:=aAc (HD.o.later HT9.o.x.be);have hrg:=aBq (sp:=1) (most:=1) HDR.o.now HDR.o.dd HLN.o (by omega) (aB9 HK19.o.1 HK19.o.2) (aB9 HK29.o.1 HK29.o.2) (by omega) (by omega) (by omega) (by omega);refine hrg.mono ?_;rintro e w10 ⟨v9,rfl,hps,hbl⟩;rw [show rngC cs ((1:Nat):Int)=rngC cs 1 from rfl,HLr.o] at hps;obtain ⟨a9,c9,e9⟩:=hps.form;rw [HNL.o] at e9;subst e9;have HT10:=aAc (HT9.o.next hbl);have HBV10:=aAc (HBV9.o.later hbl (nR _));have HPS:=aAc hps;clear hrg hps hbl hHeld HDR;refine hK.out _ _ ⟨aAa HT10.o.x.t,aAa HT10.o.x.t,aAa HT10.o.x.t,aAa HT10.o.x.t,aAa HT10.o.x.t,aAa HT10.o.g⟩ (fun hHeld=>?_);clear hK K
         try simp only [Act.put,siT,scZ,scS]
         refine aAb 16 36 ?_;refine aAb 17 53 ?_;refine aAb 18 54 ?_;refine aAb 19 9 ?_;refine aAb 20 10 ?_;refine wpAnyH_done (by kernel_rfl) ?_ _;refine NoPanic.normal ?_;clear hHeld;have HPZ:=aAc (hps0 HPS.o);go_wp2;go_meet;exact ⟨rfl,rfl,_,_,rfl,HT10.o,HPZ.o⟩
       case zb7 =>
        intro o ho K hK;simp only [tG,sG,zG,oI] at ho;subst ho;go_simp;have hbx:=aAg w5 (.cells #[.slice ka kn kc,.slice (some ⟨fb,0,none⟩) 1 1] 97);have HT6:=aAc (HT5.o.next hbx);have HBV6:=aAc (HBV5.o.later hbx (nR _));have HF6:=aAc (HF5.o.later hbx (nR _));have HP26:=aAc (aCe w5 (.slice ka kn kc) (.slice (some ⟨fb,0,none⟩) 1 1) 97);clear hbx hHeld;refine hK.out _ _ ⟨aAa HT6.o.x.t,aAa HT6.o.x.t,aAa HT6.o.x.t,aAa HT6.o.x.t,aAa HT6.o.x.t,aAa HT6.o.g⟩ (fun hHeld=>?_);generalize w5.alloc (.cells #[.slice ka kn kc,.slice (some ⟨fb,0,none⟩) 1 1] 97)=w6 at *
        generalize w5.heap.size=p2 at *
        clear hK K
        try simp only [Act.put,siT,scZ,scS]
        refine aAf 6 ?_;intro K hK;go_simp;have hbx:=aAg w6 (.cells #[.slice ka kn kc] 97);have HT7:=aAc (HT6.o.next hbx);have HBV7:=aAc (HBV6.o.later hbx (nR _));have HP27:=aAc (And.intro ((hbx.cell (aAn HP26.o.1)).trans HP26.o.1) ((hbx.cell (aAn HP26.o.2)).trans HP26.o.2));have HF7:=aAc (HF6.o.later hbx (nR _));have HP17:Hid ((w6.alloc (.cells #[.slice ka kn kc] 97)).cell? ⟨w6.heap.size,0,none⟩=some (.slice ka kn kc)):=aEg _;clear hbx hHeld;refine hK.out _ _ ⟨aAa HT7.o.x.t,aAa HT7.o.x.t,aAa HT7.o.x.t,aAa HT7.o.x.t,aAa HT7.o.x.t,aAa HT7.o.g⟩ (fun hHeld=>?_);generalize w6.alloc (.cells #[.slice ka kn kc] 97)=w7 at *
        generalize w6.heap.size=p1 at *
        clear hK K
        try simp only [Act.put,siT,scZ,scS]
        refine aAf 7 ?_;intro K hK;go_simp;refine (aEp (ys:=(r.getD cn vz).bytes) HI4.o HC2.o HBV7.o.hlen (by have:=HKN.o;omega) HKN.o.2 HBV7.o.hbyte (fun ww hb=>join_one _ ((hb.cell (aAn HP17.o)).trans HP17.o) (HBV7.o.later hb (nR _)) HKN.o.2)).mono ?_;rintro e w8 ⟨k1a,k1c,rfl,hbs,hub,hbl⟩;rw [aDq (by have:=HCV.o.2.2;omega)] at hbs;have HT8:=aAc (HT7.o.next hbl);have HBV8:=aAc (HBV7.o.later hbl (nR _));have HP28:=aAc (And.intro ((hbl.cell (aAn HP27.o.1)).trans HP27.o.1) ((hbl.cell (aAn HP27.o.2)).trans HP27.o.2));have HF8:=aAc (HF7.o.later hbl (nR _));have HK18:=aAc (And.intro hbs hub);clear hbs hub hbl hHeld;refine hK.out _ _ ⟨aAa HT8.o.x.t,aAa HT8.o.x.t,aAa HT8.o.x.t,aAa HT8.o.x.t,aAa HT8.o.x.t,aAa HT8.o.g⟩ (fun hHeld=>?_);clear hK K
        try simp only [Act.put,siT,scZ,scS]
        refine aAf 14 ?_;intro K hK;go_simp;refine (aEp (m:=kn+1) (ys:=(r.getD cn vz).bytes++[255]) HI4.o HC2.o (by rw [lA,HKE.o];rfl) (by have:=HKN.o;omega) (by omega) (fun n hn=>by rcases List.mem_append.1 hn with q | q;exact HBV8.o.hbyte n q;exact HF8.o.hbyte n q) (fun ww hb=>aDh ((hb.cell (aAn HP28.o.1)).trans HP28.o.1) ((hb.cell (aAn HP28.o.2)).trans HP28.o.2) (HBV8.o.later hb (nR _)) (HF8.o.later hb (nR _)) (nR _) (by have:=HKN.o;omega) (by omega))).mono ?_;rintro e w9 ⟨k2a,k2c,rfl,hbs,hub,hbl⟩;rw [aDq (by rw [lA];have:=HCV.o.2.2;show _+1<=_;omega)] at hbs;have HT9:=aAc (HT8.o.next hbl);have HBV9:=aAc (HBV8.o.later hbl (nR _));have HK19:=aAc (And.intro (HK18.o.1.later hbl (nR _)) (HK18.o.2.later hbl));have HK29:=aAc (And.intro hbs hub);clear hbs hub hbl hHeld;refine hK.out _ _ ⟨aAa HT9.o.x.t,aAa HT9.o.x.t,aAa HT9.o.x.t,aAa HT9.o.x.t,aAa HT9.o.x.t,aAa HT9.o.g⟩ (fun hHeld=>?_);clear hK K
        try simp only [Act.put,siT,scZ,scS]
        refine aAf 15 ?_;intro K hK;go_simp;have HDR:=aAc (HD.o.later HT9.o.x.be);have hrg:=aBq (sp:=1) (most:=1) HDR.o.now HDR.o.dd HLN.o (by omega) (aB9 HK19.o.1 HK19.o.2) (aB9 HK29.o.1 HK29.o.2) (by omega) (by omega) (by omega) (by omega);refine hrg.mono ?_;rintro e w10 ⟨v9,rfl,hps,hbl⟩;rw [show rngC cs ((1:Nat):Int)=rngC cs 1 from rfl,HLr.o] at hps;obtain ⟨a9,c9,e9⟩:=hps.form;rw [HNL.o] at e9;subst e9;have HT10:=aAc (HT9.o.next hbl);have HBV10:=aAc (HBV9.o.later hbl (nR _));have HPS:=aAc hps;clear hrg hps hbl hHeld HDR;refine hK.out _ _ ⟨aAa HT10.o.x.t,aAa HT10.o.x.t,aAa HT10.o.x.t,aAa HT10.o.x.t,aAa HT10.o.x.t,aAa HT10.o.g⟩ (fun hHeld=>?_);clear hK K
        try simp only [Act.put,siT,scZ,scS]
        refine aAb 16 36 ?_;refine aAb 17 53 ?_;refine aAb 18 54 ?_;refine aAb 19 9 ?_;refine aAb 20 10 ?_;refine wpAnyH_done (by kernel_rfl) ?_ _;refine NoPanic.normal ?_;clear hHeld;have HPZ:=aAc (hps0 HPS.o);go_wp2;go_meet;exact ⟨rfl,rfl,_,_,rfl,HT10.o,HPZ.o⟩
     case rest =>
      obtain ⟨rfl,rfl,a9,c9,rfl,ht9,hps9⟩:=hcut;have HT9:=aAc ht9;have HPS:=aAc hps9;clear ht9 hps9 HT3 HT4 HBV4;by_cases hex:∃ o∈t.rows,col o (cn:Int)=r.getD cn vz
      ·obtain ⟨o,hom,hoc⟩:=hex;have hrn:=HI.o.stand_one HTI.o HXM.o rfl rfl HCV.o.1 HCV.o.2.1 HZ.o hom hoc;rw [HLr.o] at hrn;have hnl:=HNL.o;rw [hrn] at hnl;have hnl:nl=1:=hnl.symm;subst hnl;have hps:=HPS.o;rw [hrn] at hps;obtain ⟨g9,k9,x9,e9,hev,hcell⟩:=hps.at f3_len (j:=0) rfl;obtain ⟨xc9,xk9,xv9⟩:=x9;obtain ⟨ex9,⟨y9,z9,e3,hbk9⟩,_⟩:=hev;dsimp only at ex9 e3;subst ex9;simp only [Value.slice.injEq] at e9;obtain ⟨rfl,zz9,rfl⟩:=e9;clear zz9;have hg9:wc.cell? ⟨g9,1,none⟩=some xk9:=hcell 1 (by omega);have hc90:wc.cell? ⟨g9,0,none⟩=some (.int .i64 1):=hcell 0 (by omega);subst e3;have hcap9:1<=c9:=by
        obtain ⟨kv,_,⟨_,ho⟩,_⟩:=hps;rcases ho with ⟨e,h0⟩ | ⟨g',cap',cur',e,_,_,h7,_⟩
        ·cases h0
        ·simp only [Value.slice.injEq] at e;have:([⟨1,xk i (cn:Int) o,rowB o,false⟩]:List Ch).length=1:=rfl;omega
       have hko:=HI.o.row t (at_mem HTI.o) o hom;have hfo:=hko.val (hko.fmem HOK.o);have hxe:=xk_eq (i:=i) (c:=(cn:Int)) (r:=r) (o:=o) (hoc.trans HCC.o.symm) ⟨hfo.1,hfo.2.1⟩ ⟨HFV.o.1,HFV.o.2.1⟩;have HOM:=aAc hom;have HOC:=aAc hoc;have HBK9:=aAc hbk9;have HT8:Hid (TRG L M G (.pointer (some ⟨db,0,none⟩)) i t.s.nm ca t.s.cs.length cc (some ⟨xb,xo,none⟩) xl xc pv (some ⟨vb,vo,none⟩) vn vc cn true w wc.drew):=HT9.o.next (Below.refl _ _).drew;have HG9:Hid (wc.drew.cell? ⟨g9,1,none⟩=some (.slice y9 (xk i (cn:Int) o).length z9)):=hg9;have HBS8:Hid (BS wc.drew y9 (xk i (cn:Int) o).length z9 (xk i (cn:Int) o)):=hbk9.1.later (Below.refl _ _).drew (nR _);have HIK:=aAc (aIc (dv:=.pointer (some ⟨db,0,none⟩)) (nm:=t.s.nm) (ca:=ca) (cl:=t.s.cs.length) (cc:=cc) (xa:=some ⟨xb,xo,none⟩) (xl:=xl) (xc:=xc) (pv:=pv) HI4.o HC2.o (HV.o.later HT8.o.x.be) HCG.o HF0.o HCP.o (by have:=HCV.o.2.2;omega) (by have:=HFV.o.2.2;omega));obtain ⟨kl,hkl⟩:∃ kl,min ((r.getD cn vz).bytes.length+(fst r).bytes.length+2) 60=kl:=⟨_,rfl⟩;rw [xk_take HCV.o.2.2 HFV.o.2.2,hkl] at HIK;obtain ⟨ol,hol⟩:∃ ol,(xk i (cn:Int) o).length=ol:=⟨_,rfl⟩;rw [hol] at HG9 HBS8;have HHN:=aAc hrn;clear hkl hol hrn hps hcell hg9 hc90 hbk9 hom hoc hfo hko HPS HNL;by_cases hff:fst o=fst r
       ·have HE:Hid (decide (xk i (cn:Int) o=xk i (cn:Int) r)=true):=decide_eq_true (hxe.2 hff);have HCX:Hid (clashX t.rows r ((cn:Int),true)=false):=by
         show (true && (decide ((col r (cn:Int)).1≠0) && _))=false;rw [Bool.true_and,Bool.and_eq_false_iff];refine Or.inr ?_;rw [List.any_eq_false];intro o' ho' hh;simp only [Bool.and_eq_true,decide_eq_true_eq] at hh;have e:=HI.o.uni t (at_mem HTI.o) ((cn:Int),true) HXM.o rfl o' ho' o HOM.o (by rw [hh.1,HCC.o];exact HZ.o) (by rw [hh.1,HCC.o];exact HOC.o.symm);exact hh.2 (by rw [e];exact hff)
        clear hff hxe;have HG8:=HG9;go_upto_region 9 with fail;have HX9:Hid ((fun wx:World=>wx.cell? ⟨L,0,none⟩=some (.pointer (some ⟨db,0,none⟩))/\wx.cell? ⟨L,1,none⟩=some (.int .u8 (i:Int))/\wx.cell? ⟨L,2,none⟩=some (.string t.s.nm)/\wx.cell? ⟨L,3,none⟩=some (.slice ca t.s.cs.length cc)/\wx.cell? ⟨L,4,none⟩=some (.slice (some ⟨xb,xo,none⟩) xl xc)/\wx.cell? ⟨G,0,none⟩=some (.int .i64 (cn:Int))/\wx.cell? ⟨M,0,none⟩=some pv/\wx.cell? ⟨M,1,none⟩=some (.slice (some ⟨vb,vo,none⟩) vn vc)/\wx.cell? ⟨g9,1,none⟩=some (.slice y9 ol z9)) wc.drew):=⟨aAa HT8.o.x.t,aAa HT8.o.x.t,aAa HT8.o.x.t,aAa HT8.o.x.t,aAa HT8.o.x.t,aAa HT8.o.g,aAa HT8.o.x.r,aAa HT8.o.x.r,HG8.o⟩;refine wp_region_noPanic ?_;refine wp_region_held_drew (S:=fun wx=>wx.cell? ⟨L,0,none⟩=some (.pointer (some ⟨db,0,none⟩))/\wx.cell? ⟨L,1,none⟩=some (.int .u8 (i:Int))/\wx.cell? ⟨L,2,none⟩=some (.string t.s.nm)/\wx.cell? ⟨L,3,none⟩=some (.slice ca t.s.cs.length cc)/\wx.cell? ⟨L,4,none⟩=some (.slice (some ⟨xb,xo,none⟩) xl xc)/\wx.cell? ⟨G,0,none⟩=some (.int .i64 (cn:Int))/\wx.cell? ⟨M,0,none⟩=some pv/\wx.cell? ⟨M,1,none⟩=some (.slice (some ⟨vb,vo,none⟩) vn vc)/\wx.cell? ⟨g9,1,none⟩=some (.slice y9 ol z9)) (by kernel_rfl) HX9.o (fun hHeld=>?_);generalize wc.drew=w8 at *
        refine aAb 0 60 ?_;refine aAb 1 61 ?_;refine aAb 2 62 ?_;refine aAb 3 63 ?_;refine aAb 4 64 ?_;refine aAb 5 65 ?_;refine aAb 6 66 ?_;refine aAb 7 67 ?_;refine aAb 8 68 ?_;refine aAb 9 69 ?_;refine aAb 10 70 ?_;refine aAb 11 71 ?_;refine aAf 12 ?_;intro K hK;go_simp;refine HIK.o.mono ?_;rintro e w7 ⟨a7,c7,rfl,hbs,hub,hbl⟩;have HT7:=aAc (HT8.o.next hbl);have HG7:=aAc ((hbl.cell (aAn HG8.o)).trans HG8.o);have HBS7:=aAc (HBS8.o.later hbl (nR _));have HK7:=aAc hbs;clear hbs hub hbl hHeld HIK;refine hK.out _ _ ⟨aAa HT7.o.x.t,aAa HT7.o.x.t,aAa HT7.o.x.t,aAa HT7.o.x.t,aAa HT7.o.x.t,aAa HT7.o.g,aAa HT7.o.x.r,aAa HT7.o.x.r,HG7.o⟩ (fun hHeld=>?_);clear hK K
        try simp only [Act.put,siT,scZ,scS]
        refine aAf 13 ?_;intro K hK;go_simp;refine (aDa y9 a7 ol z9 kl c7 _ _ w7 HBS7.o HK7.o).mono ?_;rintro e w6 ⟨rfl,hw⟩;have hw:=hw.symm;subst hw;have HT6:=HT7;rw [show decide (xk i (cn:Int) o=xk i (cn:Int) r)=true from HE.o];clear hHeld;refine hK.out _ _ ⟨aAa HT7.o.x.t,aAa HT7.o.x.t,aAa HT7.o.x.t,aAa HT7.o.x.t,aAa HT7.o.x.t,aAa HT7.o.g,aAa HT7.o.x.r,aAa HT7.o.x.r,HG7.o⟩ (fun hHeld=>?_);clear hK K
        try simp only [Act.put,siT,scZ,scS]
        refine aAb 14 74 ?_;refine aAb 15 75 ?_;refine aAb 16 59 ?_;refine wpAnyH_done (by kernel_rfl) ?_ _;refine NoPanic.normal ?_;clear hHeld;go_wp2;go_roundg (gk-1)
        case measure=>omega
        case rel=>exact ⟨j+1,by omega,rfl,by rw [HTK.o];exact HCX.o,HT6.o.x⟩
       ·have HE:Hid (decide (xk i (cn:Int) o=xk i (cn:Int) r)=false):=decide_eq_false (fun q=>hff (hxe.1 q));have HCX:Hid (clash t.s t.rows r=true):=by
         show t.s.xs.any (clashX t.rows r)=true;rw [List.any_eq_true];refine ⟨_,HXM.o,?_⟩;show (true && (decide ((col r (cn:Int)).1≠0) && _))=true;rw [Bool.true_and,HCC.o,decide_eq_true HZ.o,Bool.true_and,List.any_eq_true];exact ⟨o,HOM.o,by rw [decide_eq_true HOC.o,Bool.true_and];exact decide_eq_true hff⟩
        clear hff hxe;have HG8:=HG9;go_upto_region 9 with fail;have HX9:Hid ((fun wx:World=>wx.cell? ⟨L,0,none⟩=some (.pointer (some ⟨db,0,none⟩))/\wx.cell? ⟨L,1,none⟩=some (.int .u8 (i:Int))/\wx.cell? ⟨L,2,none⟩=some (.string t.s.nm)/\wx.cell? ⟨L,3,none⟩=some (.slice ca t.s.cs.length cc)/\wx.cell? ⟨L,4,none⟩=some (.slice (some ⟨xb,xo,none⟩) xl xc)/\wx.cell? ⟨G,0,none⟩=some (.int .i64 (cn:Int))/\wx.cell? ⟨M,0,none⟩=some pv/\wx.cell? ⟨M,1,none⟩=some (.slice (some ⟨vb,vo,none⟩) vn vc)/\wx.cell? ⟨g9,1,none⟩=some (.slice y9 ol z9)) wc.drew):=⟨aAa HT8.o.x.t,aAa HT8.o.x.t,aAa HT8.o.x.t,aAa HT8.o.x.t,aAa HT8.o.x.t,aAa HT8.o.g,aAa HT8.o.x.r,aAa HT8.o.x.r,HG8.o⟩;refine wp_region_noPanic ?_;refine wp_region_held_drew (S:=fun wx=>wx.cell? ⟨L,0,none⟩=some (.pointer (some ⟨db,0,none⟩))/\wx.cell? ⟨L,1,none⟩=some (.int .u8 (i:Int))/\wx.cell? ⟨L,2,none⟩=some (.string t.s.nm)/\wx.cell? ⟨L,3,none⟩=some (.slice ca t.s.cs.length cc)/\wx.cell? ⟨L,4,none⟩=some (.slice (some ⟨xb,xo,none⟩) xl xc)/\wx.cell? ⟨G,0,none⟩=some (.int .i64 (cn:Int))/\wx.cell? ⟨M,0,none⟩=some pv/\wx.cell? ⟨M,1,none⟩=some (.slice (some ⟨vb,vo,none⟩) vn vc)/\wx.cell? ⟨g9,1,none⟩=some (.slice y9 ol z9)) (by kernel_rfl) HX9.o (fun hHeld=>?_);generalize wc.drew=w8 at *
        refine aAb 0 60 ?_;refine aAb 1 61 ?_;refine aAb 2 62 ?_;refine aAb 3 63 ?_;refine aAb 4 64 ?_;refine aAb 5 65 ?_;refine aAb 6 66 ?_;refine aAb 7 67 ?_;refine aAb 8 68 ?_;refine aAb 9 69 ?_;refine aAb 10 70 ?_;refine aAb 11 71 ?_;refine aAf 12 ?_;intro K hK;go_simp;refine HIK.o.mono ?_;rintro e w7 ⟨a7,c7,rfl,hbs,hub,hbl⟩;have HT7:=aAc (HT8.o.next hbl);have HG7:=aAc ((hbl.cell (aAn HG8.o)).trans HG8.o);have HBS7:=aAc (HBS8.o.later hbl (nR _));have HK7:=aAc hbs;clear hbs hub hbl hHeld HIK;refine hK.out _ _ ⟨aAa HT7.o.x.t,aAa HT7.o.x.t,aAa HT7.o.x.t,aAa HT7.o.x.t,aAa HT7.o.x.t,aAa HT7.o.g,aAa HT7.o.x.r,aAa HT7.o.x.r,HG7.o⟩ (fun hHeld=>?_);clear hK K
        try simp only [Act.put,siT,scZ,scS]
        refine aAf 13 ?_;intro K hK;go_simp;refine (aDa y9 a7 ol z9 kl c7 _ _ w7 HBS7.o HK7.o).mono ?_;rintro e w6 ⟨rfl,hw⟩;have hw:=hw.symm;subst hw;have HT6:=HT7;rw [show decide (xk i (cn:Int) o=xk i (cn:Int) r)=false from HE.o];clear hHeld;refine hK.out _ _ ⟨aAa HT7.o.x.t,aAa HT7.o.x.t,aAa HT7.o.x.t,aAa HT7.o.x.t,aAa HT7.o.x.t,aAa HT7.o.g,aAa HT7.o.x.r,aAa HT7.o.x.r,HG7.o⟩ (fun hHeld=>?_);clear hK K
        try simp only [Act.put,siT,scZ,scS]
        refine aAb 14 74 ?_;refine aAb 15 75 ?_;refine aAb 16 59 ?_;refine wpAnyH_done (by kernel_rfl) ?_ _;refine NoPanic.normal ?_;clear hHeld;go_wp2;go_ret;exact ⟨by rw [<-HRV.o,if_pos HCX.o];rfl,by rw [<-HLL.o];exact HT6.o.x.be⟩
      ·have hne:∀ o∈t.rows,col o (cn:Int)≠r.getD cn vz:=fun o ho e=>hex ⟨o,ho,e⟩
       have hrn:=HI.o.stand_none HTI.o HXM.o rfl HCV.o.1 HCV.o.2.1 hne;rw [HLr.o] at hrn;have hnl:=HNL.o;rw [hrn] at hnl;have hnl:nl=0:=hnl.symm;subst hnl;have HCX:Hid (clashX t.rows r ((cn:Int),true)=false):=by
        show (true && (decide ((col r (cn:Int)).1≠0) && _))=false;rw [Bool.true_and,Bool.and_eq_false_iff];refine Or.inr ?_;rw [List.any_eq_false];intro o' ho' hh;simp only [Bool.and_eq_true,decide_eq_true_eq] at hh;exact hne o' ho' (by rw [hh.1,HCC.o])
       have HT8:Hid (TRG L M G (.pointer (some ⟨db,0,none⟩)) i t.s.nm ca t.s.cs.length cc (some ⟨xb,xo,none⟩) xl xc pv (some ⟨vb,vo,none⟩) vn vc cn true w wc.drew):=HT9.o.next (Below.refl _ _).drew;clear hrn hne hex HPS HNL;go_upto_region 9 with fail;have HX9:Hid ((fun wx:World=>True) wc.drew):=trivial;refine wp_region_noPanic ?_;refine wp_region_held_drew (S:=fun wx=>True) (by kernel_rfl) HX9.o (fun hHeld=>?_);generalize wc.drew=w8 at *
       refine aAb 0 60 ?_;refine aAb 1 61 ?_;refine aAb 2 62 ?_;refine aAb 3 63 ?_;refine aAj 4 64 ?_;refine aAj 5 65 ?_;refine aAj 6 66 ?_;refine aAj 7 67 ?_;refine aAj 8 68 ?_;refine aAj 9 69 ?_;refine aAj 10 70 ?_;refine aAj 11 71 ?_;refine aAj 12 72 ?_;refine aAj 13 73 ?_;refine aAj 14 74 ?_;refine aAb 15 75 ?_;refine aAb 16 59 ?_;refine wpAnyH_done (by kernel_rfl) ?_ _;refine NoPanic.normal ?_;clear hHeld;go_wp2;go_roundg (gk-1)
       case measure=>omega
       case rel=>exact ⟨j+1,by omega,rfl,by rw [HTK.o];exact HCX.o,HT8.o.x⟩
  ·have ej:j=xl:=by omega
   subst ej;have xj:¬ (j:Int)<(j:Int):=by omega
   have HCX:Hid (clash t.s t.rows r=false):=by
    show t.s.xs.any (clashX t.rows r)=false;have h9:=HNO.o;rw [<-HXL.o,List.take_length] at h9;exact h9
   go_wp2;go_ret;exact ⟨by rw [<-HRV.o,HCX.o];rfl,by rw [<-HLL.o];exact HTR.o.be⟩
end Go.Proofs.YtdpdjpkmndnaaaaGreat
