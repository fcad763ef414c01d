import Derived.ProofKit
import Derived.OpenShut
import Derived.ShutString
import Derived.ChangeOld
import Derived.Below
import Derived.SizedLaws
import Derived.Test.YtgckjkocmkedfabGreatZ73
import Derived.Test.YtgckjkocmkedfabGreatZ66
set_option maxRecDepth 100000
set_option maxHeartbeats 16000000
set_option linter.unusedVariables false
namespace Go.Proofs.YtgckjkocmkedfabGreat
open Go.RowKit
structure RHd (w:World) (pa:Option Addr) (pc:Nat) (va:Option Addr) (vc:Nat) (r:List Val):Prop where
 p:SVK fV 3 w pa r.length pc r
 v:HVu w va r.length vc r
theorem RHd.later {w w':World} {pa va:Option Addr} {pc vc:Nat} {r:List Val} (h:RHd w pa pc va vc r) (hb:Below w.heap.size w w'):RHd w' pa pc va vc r:=⟨h.p.later hb,h.v.later hb⟩
theorem aF0 {w:World} {g:Nat} {a0 a1 b0 b1:Value} {t:TypeId} (h:w.heap[g]?=some (.cells #[a0,a1] t (0,0))):((w.setCell ⟨g,0,none⟩ b0).setCell ⟨g,1,none⟩ b1).heap[g]?=some (.cells #[b0,b1] t (0,0)) :=
 heap_setCell_same _ _ _ _ _ _ (heap_setCell_same _ _ _ _ _ _ h)
theorem aBf {w:World} {g b:Nat} {b0 b1:Value} (h:b≠g):((w.setCell ⟨g,0,none⟩ b0).setCell ⟨g,1,none⟩ b1).heap[b]?=w.heap[b]?:=by
 rw [heap_setCell_other _ _ _ _ h,heap_setCell_other _ _ _ _ h]
theorem aCv {B g:Nat} {w0 w:World} {b0 b1:Value} (h:Below B w0 w) (hg:B≤g):Below B w0 ((w.setCell ⟨g,0,none⟩ b0).setCell ⟨g,1,none⟩ b1) :=
 (h.setCell (p:=⟨g,0,none⟩) hg _).setCell (p:=⟨g,1,none⟩) hg _
theorem SVK.oth {α:Type} {f:α→List Value} {k R:Nat} {w w':World} {a:Option Addr} {n c:Nat} {l:List α} {cs:Array Value} {t:TypeId} {fz:Nat×Nat} (h:SVK f k w a n c l) (hk:0<k) (hR:w.heap[R]?=some (.cells cs t fz)) (hno:∀ x u,(f x)[0]?=some u→∀ o:Nat,cs[o]?≠some u) (hfx:∀ x,∃ u,(f x)[0]?=some u) (hs:w.heap.size≤w'.heap.size) (ho:∀ b,b≠R→w'.heap[b]?=w.heap[b]?):SVK f k w' a n c l:=by
 refine ⟨h.hl,h.hc,h.hm,h.hn,fun h0=>?_⟩
 obtain ⟨b,o,h1,h2,h3⟩:=h.pl h0
 have hne:b≠R:=by
  intro e
  subst e
  obtain ⟨x,hx⟩:∃ x,l[0]?=some x:=⟨_,gE (by rw [h.hl];exact h0)⟩
  obtain ⟨u,hu⟩:=hfx x
  have:=h3 0 x hx 0 hk
  rw [hu,aAa hR] at this
  exact hno x u hu _ this
 exact ⟨b,o,h1,Nat.lt_of_lt_of_le h2 hs,fun i x hx t ht=>(World.cell?_of_block (ho b hne)).trans (h3 i x hx t ht)⟩
theorem FT.oth {R:Nat} {w w':World} {cs:Array Value} {t:TypeId} {fz:Nat×Nat} (hR:w.heap[R]?=some (.cells cs t fz)) (ht:t≠5) (hb:Below 0 w w') (ho:∀ b,b≠R→w'.heap[b]?=w.heap[b]?):FT 0 w w':=by
 refine ⟨hb,fun k c2 f2 e=>(ho k fun q=>?_).trans e⟩
 rw [q,hR] at e
 simp only [oI,cI] at e
 exact ht e.2.1
def NoV (cs:Array Value):Prop:=(∀ (z:Int) (o:Nat),cs[o]?≠some (.int .i64 z))∧∀ (t:TypeId) (u:Value) (o:Nat),cs[o]?≠some (.iface t u)
theorem RHd.oth {R:Nat} {w w':World} {pa va:Option Addr} {pc vc:Nat} {r:List Val} {cs:Array Value} {t:TypeId} {fz:Nat×Nat} (h:RHd w pa pc va vc r) (hR:w.heap[R]?=some (.cells cs t fz)) (ht:t≠5) (hno:NoV cs) (hb:Below 0 w w') (ho:∀ b,b≠R→w'.heap[b]?=w.heap[b]?):RHd w' pa pc va vc r:=by
 obtain ⟨hs,h1,h2⟩:=h.v
 exact ⟨h.p.oth (by omega) hR (fun x u hu o=>by simp only [fV,List.getElem?_cons_zero,oI] at hu;subst hu;exact hno.1 _ o) (fun x=>⟨_,rfl⟩) hb.size ho,
  hs,h1.oth (by omega) hR (fun x u hu o=>by simp only [fI,List.getElem?_cons_zero,oI] at hu;subst hu;exact hno.2 _ _ o) (fun x=>⟨_,rfl⟩) hb.size ho,h2.ft (FT.oth hR ht hb ho)⟩
theorem aFg {a b:Option Addr} {n c m d:Nat}:NoV #[.slice a n c,.slice b m d]:=by
 constructor
 ·intro z o
  match o with
  | 0=>simp
  | 1=>simp
  | o+2=>simp
 ·intro t u o
  match o with
  | 0=>simp
  | 1=>simp
  | o+2=>simp
theorem noV_tab {p:Option Addr} {i:Int} {s:ByteArray} {a b:Option Addr} {n c m d:Nat}:NoV #[.pointer p,.int .u8 i,.string s,.slice a n c,.slice b m d]:=by
 constructor
 ·intro z o
  match o with
  | 0=>simp
  | 1=>simp
  | 2=>simp
  | 3=>simp
  | 4=>simp
  | o+5=>simp
 ·intro t u o
  match o with
  | 0=>simp
  | 1=>simp
  | 2=>simp
  | 3=>simp
  | 4=>simp
  | o+5=>simp
theorem RHd.set2 {R:Nat} {w:World} {pa va a b:Option Addr} {pc vc n c m d:Nat} {r:List Val} {b0 b1:Value} (h:RHd w pa pc va vc r) (hR:w.heap[R]?=some (.cells #[.slice a n c,.slice b m d] 92 (0,0))):RHd ((w.setCell ⟨R,0,none⟩ b0).setCell ⟨R,1,none⟩ b1) pa pc va vc r :=
 h.oth hR (by decide) aFg (aCv (Below.refl 0 w) (Nat.zero_le _)) fun _ hb=>aBf hb
theorem RHd.set5 {R:Nat} {w:World} {pa va p a b:Option Addr} {i:Int} {sx:ByteArray} {pc vc n c m d:Nat} {r:List Val} {b0 b1 b2 b3 b4:Value} (h:RHd w pa pc va vc r) (hR:w.heap[R]?=some (.cells #[.pointer p,.int .u8 i,.string sx,.slice a n c,.slice b m d] 86 (0,0))):RHd (((((w.setCell ⟨R,0,none⟩ b0).setCell ⟨R,1,none⟩ b1).setCell ⟨R,2,none⟩ b2).setCell ⟨R,3,none⟩ b3).setCell ⟨R,4,none⟩ b4) pa pc va vc r :=
 h.oth hR (by decide) noV_tab (aGp (Below.refl 0 w) (Nat.zero_le _)) fun _ hb=>aDh hb
theorem SC.oth {R:Nat} {w w':World} {ca xa:Option Addr} {cl cc xl xc:Nat} {s:Sch} {cs:Array Value} {t:TypeId} {fz:Nat×Nat} (h:SC w ca cl cc xa xl xc s) (hR:w.heap[R]?=some (.cells cs t fz)) (hnc:∀ (z:Int) (o:Nat),cs[o]?≠some (.int .i64 z)) (hs:w.heap.size≤w'.heap.size) (ho:∀ b,b≠R→w'.heap[b]?=w.heap[b]?):SC w' ca cl cc xa xl xc s:=by
 refine ⟨?_,h.x.oth (by omega) hR (fun x u hu o=>by simp only [fX,List.getElem?_cons_zero,oI] at hu;subst hu;exact hnc _ o) (fun x=>⟨_,rfl⟩) hs ho⟩
 refine ⟨h.c.hl,h.c.hc,h.c.hm,h.c.hn,fun h0=>?_⟩
 obtain ⟨b,o,h1,h2,h3⟩:=h.c.pl h0
 have hne:b≠R:=by
  intro e
  subst e
  obtain ⟨x,hx⟩:∃ x,s.cs[0]?=some x:=⟨_,gE (by rw [h.c.hl];exact h0)⟩
  have:=h3 0 x hx 1 (by omega)
  rw [aAa hR] at this
  exact hnc _ _ this
 exact ⟨b,o,h1,Nat.lt_of_lt_of_le h2 hs,fun i x hx t ht=>(World.cell?_of_block (ho b hne)).trans (h3 i x hx t ht)⟩
theorem tread_ok {dv:Value} {num:Nat} {ca xa a:Option Addr} {cc xc n c:Nat} {s:Sch} {r:List Val} {w:World} (hsc:SC w ca s.cs.length cc xa s.xs.length xc s) (hs:s.ok=true) (hr:RowOk s r) (hb:BS w a n c (rowB r)) :
  Calls Tryz.prog 95 #[.agg #[dv,.int .u8 (num:Int),.string s.nm,.slice ca s.cs.length cc,.slice xa s.xs.length xc],.slice a n c] w fun e w'=>∃ pa pc va vc,e=.returned (.tuple #[.agg #[.slice pa r.length pc,.slice va r.length vc],.int .i64 0])∧RHd w' pa pc va vc r∧Below w.heap.size w w':=by
 obtain ⟨L,hL⟩:∃ L,w.heap.size=L:=⟨_,rfl⟩
 obtain ⟨R,hR⟩:∃ R,L+1=R:=⟨_,rfl⟩
 obtain ⟨w1,hw1⟩:∃ w1,w1=(w.alloc (.cells #[dv,.int .u8 (num:Int),.string s.nm,.slice ca s.cs.length cc,.slice xa s.xs.length xc] 86)).alloc (.cells #[.slice none 0 0,.slice none 0 0] 92):=⟨_,rfl⟩
 have hb1:Below w.heap.size w w1:=by rw [hw1];exact (aAf w _).trans ((aAf _ _).mono (aAf w _).size)
 have HT1:Hid (w1.heap[L]?=some (.cells #[dv,.int .u8 (num:Int),.string s.nm,.slice ca s.cs.length cc,.slice xa s.xs.length xc] 86 (0,0))):=by show _=_;rw [hw1,←hL];exact heap_alloc2_old w _ _
 have HZ1:Hid (w1.heap[R]?=some (.cells #[.slice none 0 0,.slice none 0 0] 92 (0,0))):=by show _=_;rw [hw1,←hR,←hL];exact heap_alloc2_new w _ _
 have HB1:Hid (Below L w w1):=by show Below L w w1;rw [←hL];exact hb1
 have HS1:=aAb (hsc.later hb1)
 have hn:n≤1048576:=by have:=hb.hlen;have:=aIo hr.rE;omega
 have HDR:=aAb (aJg (hb.later hb1 (nR _)) hn)
 rw [aHg hr.rE hr.ok] at HDR
 have HR:=aAb hr
 have HSO:=aAb hs
 have HW1:=aAb hw1
 have HLL:=aAb hR
 rw [hL]
 clear hsc hs hr hb hb1 hw1 hn
 go_enter Tryz.func95,Tryz.ntmps95
 go_upto_region 1 with fail
 rw [←HW1.out]
 try simp only [hL,hR]
 clear HW1
 go_wp2_with fail
 refine HDR.out.mono ?_
 rintro e w2 ⟨hd,hb2⟩
 obtain ⟨_,pa,pc,rfl,hsv⟩:=hd
 obtain ⟨m,hm⟩:∃ m,r.length=m:=⟨_,rfl⟩
 have HM:=aAb hm
 rw [hm] at hsv ⊢
 have hm3:m≤3:=by rw [←hm,HR.out.len];exact (Sch.c3 HSO.out).2
 have HT2:=aAb ((hb2.block L (aAe HT1.out)).trans HT1.out)
 have HZ2:=aAb ((hb2.block R (aAe HZ1.out)).trans HZ1.out)
 have HB2:Hid (Below L w w2):=HB1.out.trans (hb2.mono (Nat.le_of_lt (aAe HT1.out)))
 have HFT:=aAb (sfits_any (HS1.out.later hb2) hsv (fun x hx=>by have h9:=HR.out.val hx;have:=aDd h9.2.1 h9.2.2;omega))
 rw [HR.out.fit] at HFT
 have HSV:=aAb hsv
 have x2:w2.cell? ⟨L,2,none⟩=some (.string s.nm):=aAa HT2.out
 have x3:w2.cell? ⟨L,3,none⟩=some (.slice ca s.cs.length cc):=aAa HT2.out
 have x4:w2.cell? ⟨L,4,none⟩=some (.slice xa s.xs.length xc):=aAa HT2.out
 have HM3:=aAb hm3
 clear hsv hb2 HDR HS1 HT1 HZ1 HB1 hm hm3
 go_wp2_with fail
 refine HFT.out.mono ?_
 rintro e w3 ⟨rfl,hb3⟩
 have HZ3:=aAb ((hb3.block R (aAe HZ2.out)).trans HZ2.out)
 have HB3:Hid (Below L w w3):=HB2.out.trans (hb3.mono (Nat.le_of_lt (aAe HT2.out)))
 have HSV3:=aAb (HSV.out.later hb3)
 have HHR:=aAb (aFj HSV3.out (by have:=HM3.out;omega) (fun x hx=>by have h9:=HR.out.val hx;have:=aDd h9.2.1 h9.2.2;exact ⟨h9.1,h9.2.1,by omega⟩))
 have HLG:Hid (L≤w3.heap.size∧L≤R):=⟨by have:=aAe HZ3.out;have:=HLL.out;omega,by have:=HLL.out;omega⟩
 clear hb3 x2 x3 x4 HFT HT2 HZ2 HB2 HSV
 go_wp2_with fail
 refine HHR.out.mono ?_
 rintro e w4 ⟨va,vc,rfl,hv,hb4⟩
 have HZ4:=aAb ((hb4.block R (aAe HZ3.out)).trans HZ3.out)
 have HB4:Hid (Below L w w4):=HB3.out.trans (hb4.mono HLG.out.1)
 have HRH:Hid (RHd w4 pa pc va vc r):=by
  refine ⟨?_,?_⟩
  ·rw [HM.out];exact HSV3.out.later hb4
  ·rw [HM.out];exact hv
 clear hv hb4 HHR HSV3 HB3 HZ3
 have z0:w4.cell? ⟨R,0,none⟩=some (.slice none 0 0):=aAa HZ4.out
 have zf0:w4.frozen? ⟨R,0,none⟩=false:=aAg HZ4.out
 have z1:w4.cell? ⟨R,1,none⟩=some (.slice none 0 0):=aAa HZ4.out
 have zf1:w4.frozen? ⟨R,1,none⟩=false:=aAg HZ4.out
 go_wp2
 (try simp only [Exit.inBlock,Exit.then])
 refine bodyPost_ret (aDj Tryz.results95 _ _ R _ _ _ _ rfl (aF0 HZ4.out)) rfl ?_
 exact ⟨pa,pc,va,vc,by rw [HM.out];rfl,HRH.out.set2 HZ4.out,aCv HB4.out HLG.out.2⟩
def GetR (t:Tbl) (x:Val) (e:Ending) (w':World):Prop :=
 (rowAt t.rows x=none→e=.returned (.tuple #[.agg #[.slice none 0 0,.slice none 0 0],.int .i64 4])) ∧
 ∀ r,rowAt t.rows x=some r→∃ pa pc va vc,e=.returned (.tuple #[.agg #[.slice pa r.length pc,.slice va r.length vc],.int .i64 0])∧RHd w' pa pc va vc r
theorem aFa [Gd] {B p q g ls db i:Nat} {v:Value} {cs:List Ch} {W w0 w:World} {T:List Tbl} {t:Tbl} {x:Val} {ca xa ka:Option Addr} {cc xc kn kc:Nat} (h:DR B p q g ls db v cs W w0 w) (I:Inv cs T) (hl:cs.length≤1000) (hti:T[i]?=some t) (hx:x.ok) (hxe:x.err=0) (hsc:SC w ca t.s.cs.length cc xa t.s.xs.length xc t.s) (hb:BS w ka kn kc x.bytes) (hkn:kn≤10000000) (hkp:0<kn) :
  Calls Tryz.prog 82 #[.agg #[.pointer (some ⟨db,0,none⟩),.int .u8 (i:Int),.string t.s.nm,.slice ca t.s.cs.length cc,.slice xa t.s.xs.length xc],.iface (hT x) (.slice ka kn kc)] w fun e w'=>GetR t x e w'∧Below w.heap.size w w':=by
 obtain ⟨L,hL⟩:∃ L,w.heap.size=L:=⟨_,rfl⟩
 obtain ⟨R,hR⟩:∃ R,L+1=R:=⟨_,rfl⟩
 obtain ⟨w1,hw1⟩:∃ w1,w1=(w.alloc (.cells #[.pointer (some ⟨db,0,none⟩),.int .u8 (i:Int),.string t.s.nm,.slice ca t.s.cs.length cc,.slice xa t.s.xs.length xc] 86)).alloc (.cells #[.slice none 0 0,.slice none 0 0] 92):=⟨_,rfl⟩
 have hb1:Below w.heap.size w w1:=by rw [hw1];exact (aAf w _).trans ((aAf _ _).mono (aAf w _).size)
 have HT1:Hid (w1.drew.heap[L]?=some (.cells #[.pointer (some ⟨db,0,none⟩),.int .u8 (i:Int),.string t.s.nm,.slice ca t.s.cs.length cc,.slice xa t.s.xs.length xc] 86 (0,0))):=by show w1.heap[L]?=_;rw [hw1,←hL];exact heap_alloc2_old w _ _
 have HZ1:Hid (w1.drew.heap[R]?=some (.cells #[.slice none 0 0,.slice none 0 0] 92 (0,0))):=by show w1.heap[R]?=_;rw [hw1,←hR,←hL];exact heap_alloc2_new w _ _
 have HB1:Hid (Below L w w1.drew):=by show Below L w _;rw [←hL];exact hb1.drew
 have hb1d:=hb1.drew
 have HS1:=aAb (hsc.later hb1d)
 have HD1:=aAb (h.later hb1d)
 have HK1:=aAb (hb.later hb1d (nR _))
 have htm:=at_mem hti
 have hi4:i<256:=by have:=(lL hti);have:=I.len;omega
 have HI4:=aAb hi4
 have HOK:=aAb (I.ok t htm)
 have HI:=aAb I
 have HL:=aAb hl
 have HTI:=aAb hti
 have HXE:=aAb (And.intro hx hxe)
 have HKN:=aAb (And.intro hkp hkn)
 have HW1:=aAb hw1
 have HLL:=aAb hR
 obtain ⟨kl,hkl⟩:∃ kl,min (kn+2) 60=kl:=⟨_,rfl⟩
 have HKL:Hid (2≤kl∧kl≤60):=⟨by omega,by omega⟩
 have HRK:Hid (Calls Tryz.prog 86 #[.agg #[.pointer (some ⟨db,0,none⟩),.int .u8 (i:Int),.string t.s.nm,.slice ca t.s.cs.length cc,.slice xa t.s.xs.length xc],.iface (hT x) (.slice ka kn kc)] w1.drew fun e w'=>∃ a' c',e=.returned (.slice a' kl c')∧BS w' a' kl c' ((rk i x).take 60)∧UB w' a'∧Below w1.drew.heap.size w1.drew w'):=by
  have h9:=rowKey_ok (x:=x) (dv:=.pointer (some ⟨db,0,none⟩)) (nm:=t.s.nm) (ca:=ca) (cl:=t.s.cs.length) (cc:=cc) (xa:=xa) (xl:=t.s.xs.length) (xc:=xc) HI4.out HK1.out HKN.out.1 HKN.out.2
  rw [hkl] at h9
  exact h9
 rw [hL]
 clear h I hl hti hx hxe hsc hb hkn hkp hb1 hb1d hw1 htm hi4 hkl
 generalize hT x=tx at *
 go_enter Tryz.func82,Tryz.ntmps82
 go_upto_region 1 with fail
 rw [←HW1.out]
 try simp only [hL,hR]
 clear HW1
 have HX0:Hid ((fun wx:World=>wx.cell? ⟨L,0,none⟩=some (.pointer (some ⟨db,0,none⟩))∧wx.cell? ⟨L,1,none⟩=some (.int .u8 (i:Int))∧wx.cell? ⟨L,2,none⟩=some (.string t.s.nm)∧wx.cell? ⟨L,3,none⟩=some (.slice ca t.s.cs.length cc)∧wx.cell? ⟨L,4,none⟩=some (.slice xa t.s.xs.length xc)) w1.drew):=⟨aAa HT1.out,aAa HT1.out,aAa HT1.out,aAa HT1.out,aAa HT1.out⟩
 refine wp_region_noPanic ?_
 refine wp_region_held_drew (S:=fun wx=>wx.cell? ⟨L,0,none⟩=some (.pointer (some ⟨db,0,none⟩))∧wx.cell? ⟨L,1,none⟩=some (.int .u8 (i:Int))∧wx.cell? ⟨L,2,none⟩=some (.string t.s.nm)∧wx.cell? ⟨L,3,none⟩=some (.slice ca t.s.cs.length cc)∧wx.cell? ⟨L,4,none⟩=some (.slice xa t.s.xs.length xc)) (by kernel_rfl) HX0.out (fun hHeld=>?_)
 generalize w1.drew=w1 at *
 refine wpAnyH_tk 0 10 ?_
 refine wpAnyH_tk 1 11 ?_
 refine wpAnyH_tk 2 12 ?_
 refine wpAnyH_tk 3 13 ?_
 refine wpAnyH_cm 4 ?_;intro K hK
 go_simp
 refine HRK.out.mono ?_
 rintro e w2 ⟨a2,c2,rfl,hbs,hub,hb2⟩
 have HT2:=aAb ((hb2.block L (aAe HT1.out)).trans HT1.out)
 have HZ2:=aAb ((hb2.block R (aAe HZ1.out)).trans HZ1.out)
 have HB2:Hid (Below L w w2):=HB1.out.trans (hb2.mono (Nat.le_of_lt (aAe HT1.out)))
 have HS2:=aAb (HS1.out.later hb2)
 have HD2:=aAb (HD1.out.later hb2)
 have HBK:Hid (BK B w2 a2 kl c2 ((rk i x).take 60)):=aBx hbs hub
 clear hbs hub hb2 hHeld HRK
 refine hK.out _ _ ⟨aAa HT2.out,aAa HT2.out,aAa HT2.out,aAa HT2.out,aAa HT2.out⟩ (fun hHeld=>?_)
 clear hK K
 try simp only [Act.put,siT,scZ,scS]
 refine wpAnyH_cm 5 ?_;intro K hK
 go_simp
 refine (dget_ok (sp:=1) HD2.out.now HD2.out.dd HL.out HBK.out (by unfold wrg;rw [show isSp 1=true from rfl,decide_eq_false (show ¬ kl=0 by have:=HKL.out;omega),decide_eq_false (show ¬ 60<kl by have:=HKL.out;omega),decide_eq_false (show ¬ 1800<0 by omega)];rfl)).mono ?_
 rintro e w3 ⟨hgt,hb3⟩
 have HT3:=aAb ((hb3.block L (aAe HT2.out)).trans HT2.out)
 have HZ3:=aAb ((hb3.block R (aAe HZ2.out)).trans HZ2.out)
 have HB3:Hid (Below L w w3):=HB2.out.trans (hb3.mono (Nat.le_of_lt (aAe HT2.out)))
 have HS3:=aAb (HS2.out.later hb3)
 have HD3:=aAb (HD2.out.later hb3)
 have HGT:=aAb hgt
 clear hb3 hgt hHeld HD2 HD1 HT1 HT2 HB1 HB2 HS1 HS2 HZ1 HZ2
 cases hra:rowAt t.rows x with
 | none =>
  have he:=HGT.out.none_ (HI.out.get_no HTI.out HXE.out.1 HXE.out.2 (aH2 hra))
  subst he
  have HRA:=aAb hra
  clear hra HGT
  refine hK.out _ _ ⟨aAa HT3.out,aAa HT3.out,aAa HT3.out,aAa HT3.out,aAa HT3.out⟩ (fun hHeld=>?_)
  clear hK K
  try simp only [Act.put,siT,scZ,scS]
  refine wpAnyH_tk 6 9 ?_
  refine wpAnyH_tk 7 16 ?_
  refine wpAnyH_tk 8 17 ?_
  refine wpAnyH_tk 9 18 ?_
  refine wpAnyH_tk 10 6 ?_
  refine wpAnyH_tk 11 7 ?_
  refine wpAnyH_tk 12 8 ?_
  refine wpAnyH_done (by kernel_rfl) ?_ _
  refine NoPanic.normal ?_
  clear hHeld
  have z0:w3.cell? ⟨R,0,none⟩=some (.slice none 0 0):=aAa HZ3.out
  have zf0:w3.frozen? ⟨R,0,none⟩=false:=aAg HZ3.out
  have z1:w3.cell? ⟨R,1,none⟩=some (.slice none 0 0):=aAa HZ3.out
  have zf1:w3.frozen? ⟨R,1,none⟩=false:=aAg HZ3.out
  go_wp2
  (try simp only [Exit.inBlock,Exit.then])
  refine bodyPost_ret (aDj Tryz.results82 _ _ R _ _ _ _ rfl (aF0 HZ3.out)) rfl ?_
  exact ⟨⟨fun _=>rfl,fun r q=>nomatch (HRA.out.symm.trans q)⟩,aCv HB3.out (by have:=HLL.out;omega)⟩
 | some r =>
  obtain ⟨hrm,hrf⟩:=aFe hra
  subst hrf
  have hgt:=HGT.out
  rw [HI.out.get_yes HTI.out hrm] at hgt
  obtain ⟨a4,k4,he,hbk⟩:=hgt.some_ rfl
  subst he
  dsimp only at hbk
  have HRO:=aAb (HI.out.row t (at_mem HTI.out) r hrm)
  have HRA:=aAb hra
  obtain ⟨bn,hbn⟩:∃ bn,(rowB r).length=bn:=⟨_,rfl⟩
  have hbs:=hbk.1
  rw [hbn] at hbs
  have HRD:=aAb (tread_ok (dv:=.pointer (some ⟨db,0,none⟩)) (num:=i) HS3.out HOK.out HRO.out hbs)
  dsimp only
  rw [hbn]
  clear hra hgt hbk hbs hbn HGT hrm
  refine hK.out _ _ ⟨aAa HT3.out,aAa HT3.out,aAa HT3.out,aAa HT3.out,aAa HT3.out⟩ (fun hHeld=>?_)
  clear hK K
  try simp only [Act.put,siT,scZ,scS]
  refine wpAnyH_tk 6 9 ?_
  refine wpAnyH_tk 7 16 ?_
  refine wpAnyH_tk 8 17 ?_
  refine wpAnyH_tk 9 18 ?_
  refine wpAnyH_tk 10 6 ?_
  refine wpAnyH_tk 11 7 ?_
  refine wpAnyH_tk 12 8 ?_
  refine wpAnyH_done (by kernel_rfl) ?_ _
  refine NoPanic.normal ?_
  clear hHeld
  have x0:w3.cell? ⟨L,0,none⟩=some (.pointer (some ⟨db,0,none⟩)):=aAa HT3.out
  have x1:w3.cell? ⟨L,1,none⟩=some (.int .u8 (i:Int)):=aAa HT3.out
  have x2:w3.cell? ⟨L,2,none⟩=some (.string t.s.nm):=aAa HT3.out
  have x3:w3.cell? ⟨L,3,none⟩=some (.slice ca t.s.cs.length cc):=aAa HT3.out
  have x4:w3.cell? ⟨L,4,none⟩=some (.slice xa t.s.xs.length xc):=aAa HT3.out
  have z0:w3.cell? ⟨R,0,none⟩=some (.slice none 0 0):=aAa HZ3.out
  have zf0:w3.frozen? ⟨R,0,none⟩=false:=aAg HZ3.out
  have z1:w3.cell? ⟨R,1,none⟩=some (.slice none 0 0):=aAa HZ3.out
  have zf1:w3.frozen? ⟨R,1,none⟩=false:=aAg HZ3.out
  clear z0 zf0 z1 zf1
  go_wp2_with fail
  refine HRD.out.mono ?_
  rintro e w4 ⟨pa,pc,va,vc,rfl,hrh,hb4⟩
  have HRH:=aAb hrh
  have HZ4:=aAb ((hb4.block R (aAe HZ3.out)).trans HZ3.out)
  have HB4:Hid (Below L w w4):=HB3.out.trans (hb4.mono (Nat.le_of_lt (aAe HT3.out)))
  clear hrh hb4 HRD x0 x1 x2 x3 x4
  have z0:w4.cell? ⟨R,0,none⟩=some (.slice none 0 0):=aAa HZ4.out
  have zf0:w4.frozen? ⟨R,0,none⟩=false:=aAg HZ4.out
  have z1:w4.cell? ⟨R,1,none⟩=some (.slice none 0 0):=aAa HZ4.out
  have zf1:w4.frozen? ⟨R,1,none⟩=false:=aAg HZ4.out
  go_wp2
  (try simp only [Exit.inBlock,Exit.then])
  refine bodyPost_ret (aDj Tryz.results82 _ _ R _ _ _ _ rfl (aF0 HZ4.out)) rfl ?_
  refine ⟨⟨(fun q=>nomatch (HRA.out.symm.trans q)),fun r2 q=>?_⟩,aCv HB4.out (by have:=HLL.out;omega)⟩
  have q2:=HRA.out.symm.trans q
  simp only [oI] at q2
  subst q2
  exact ⟨pa,pc,va,vc,rfl,HRH.out.set2 HZ4.out⟩
theorem tcount_ok [Gd] {B p q g ls db i:Nat} {v:Value} {cs:List Ch} {W w0 w:World} {T:List Tbl} {t:Tbl} {ca xa:Option Addr} {cc xc:Nat} (h:DR B p q g ls db v cs W w0 w) (I:Inv cs T) (hl:cs.length≤1000) (hti:T[i]?=some t) :
  Calls Tryz.prog 42 #[.agg #[.pointer (some ⟨db,0,none⟩),.int .u8 (i:Int),.string t.s.nm,.slice ca t.s.cs.length cc,.slice xa t.s.xs.length xc]] w fun e w'=>e=.returned (.tuple #[.int .i64 (t.rows.length:Int),.int .i64 0])∧Below w.heap.size w w':=by
 obtain ⟨L,hL⟩:∃ L,w.heap.size=L:=⟨_,rfl⟩
 obtain ⟨w1,hw1⟩:∃ w1,w1=w.alloc (.cells #[.pointer (some ⟨db,0,none⟩),.int .u8 (i:Int),.string t.s.nm,.slice ca t.s.cs.length cc,.slice xa t.s.xs.length xc] 86):=⟨_,rfl⟩
 have hb1:Below w.heap.size w w1:=by rw [hw1];exact aAf w _
 have HT1:Hid (w1.drew.heap[L]?=some (.cells #[.pointer (some ⟨db,0,none⟩),.int .u8 (i:Int),.string t.s.nm,.slice ca t.s.cs.length cc,.slice xa t.s.xs.length xc] 86 (0,0))):=by show w1.heap[L]?=_;rw [hw1,←hL];exact boxed w _
 have HB1:Hid (Below L w w1.drew):=by show Below L w _;rw [←hL];exact hb1.drew
 have HD1:=aAb (h.later hb1.drew)
 have hi4:i<256:=by have:=(lL hti);have:=I.len;omega
 have HI4:=aAb hi4
 have HL:=aAb hl
 have HCN:=aAb (I.count hti)
 have HW1:=aAb hw1
 rw [hL]
 clear h I hl hti hb1 hw1 hi4
 go_enter Tryz.func42,Tryz.ntmps42
 go_upto_region 1 with fail
 rw [←HW1.out]
 try simp only [hL]
 clear HW1
 have HX0:Hid ((fun wx:World=>wx.cell? ⟨L,0,none⟩=some (.pointer (some ⟨db,0,none⟩))∧wx.cell? ⟨L,1,none⟩=some (.int .u8 (i:Int))∧wx.cell? ⟨L,2,none⟩=some (.string t.s.nm)∧wx.cell? ⟨L,3,none⟩=some (.slice ca t.s.cs.length cc)∧wx.cell? ⟨L,4,none⟩=some (.slice xa t.s.xs.length xc)) w1.drew):=⟨aAa HT1.out,aAa HT1.out,aAa HT1.out,aAa HT1.out,aAa HT1.out⟩
 refine wp_region_noPanic ?_
 refine wp_region_held_drew (S:=fun wx=>wx.cell? ⟨L,0,none⟩=some (.pointer (some ⟨db,0,none⟩))∧wx.cell? ⟨L,1,none⟩=some (.int .u8 (i:Int))∧wx.cell? ⟨L,2,none⟩=some (.string t.s.nm)∧wx.cell? ⟨L,3,none⟩=some (.slice ca t.s.cs.length cc)∧wx.cell? ⟨L,4,none⟩=some (.slice xa t.s.xs.length xc)) (by kernel_rfl) HX0.out (fun hHeld=>?_)
 generalize w1.drew=w1 at *
 refine wpAnyH_tk 0 7 ?_
 refine wpAnyH_tk 1 8 ?_
 refine wpAnyH_tk 2 9 ?_
 refine wpAnyH_tk 4 11 ?_
 refine wpAnyH_cm 3 ?_;intro K hK
 go_simp
 refine (at_zero (num:=i) (col:=0) HI4.out (by omega)).mono ?_
 rintro e w2 ⟨a2,c2,rfl,hbs,hub,hb2⟩
 have HT2:=aAb ((hb2.block L (aAe HT1.out)).trans HT1.out)
 have HB2:Hid (Below L w w2):=HB1.out.trans (hb2.mono (Nat.le_of_lt (aAe HT1.out)))
 have HD2:=aAb (HD1.out.later hb2)
 have HK2:Hid (BS w2 a2 2 c2 [i,0]∧UB w2 a2):=⟨hbs,hub⟩
 clear hbs hub hb2 hHeld
 refine hK.out _ _ ⟨aAa HT2.out,aAa HT2.out,aAa HT2.out,aAa HT2.out,aAa HT2.out⟩ (fun hHeld=>?_)
 clear hK K
 try simp only [Act.put,siT,scZ,scS]
 refine wpAnyH_cm 5 ?_;intro K hK
 go_simp
 refine (at_zero (num:=i) (col:=1) HI4.out (by omega)).mono ?_
 rintro e w3 ⟨a3,c3,rfl,hbs,hub,hb3⟩
 have HT3:=aAb ((hb3.block L (aAe HT2.out)).trans HT2.out)
 have HB3:Hid (Below L w w3):=HB2.out.trans (hb3.mono (Nat.le_of_lt (aAe HT2.out)))
 have HD3:=aAb (HD2.out.later hb3)
 have HK3:Hid (BS w3 a3 2 c3 [i,1]∧UB w3 a3):=⟨hbs,hub⟩
 have HJ3:Hid (BS w3 a2 2 c2 [i,0]∧UB w3 a2):=⟨HK2.out.1.later hb3 (nR _),HK2.out.2.later hb3⟩
 clear hbs hub hb3 hHeld
 refine hK.out _ _ ⟨aAa HT3.out,aAa HT3.out,aAa HT3.out,aAa HT3.out,aAa HT3.out⟩ (fun hHeld=>?_)
 clear hK K
 try simp only [Act.put,siT,scZ,scS]
 refine wpAnyH_cm 6 ?_;intro K hK
 go_simp
 have hrg:=aBg (sp:=1) (most:=64) HD3.out.now HD3.out.dd HL.out (by omega) (aBx HJ3.out.1 HJ3.out.2) (aBx HK3.out.1 HK3.out.2) (by omega) (by omega) (by omega) (by omega)
 refine hrg.mono ?_
 rintro e w4 ⟨v4,rfl,hps,hb4⟩
 have HT4:=aAb ((hb4.block L (aAe HT3.out)).trans HT3.out)
 have HB4:Hid (Below L w w4):=HB3.out.trans (hb4.mono (Nat.le_of_lt (aAe HT3.out)))
 have HD4:=aAb (HD3.out.later hb4)
 obtain ⟨a4,c4,e4⟩:=hps.form
 rw [show rngC cs ((1:Nat):Int) [i,0] [i,1] 64=rngC cs 1 [i,0] [i,1] 64 from rfl,HCN.out] at e4
 subst e4
 clear hrg hps hb4 hHeld
 refine hK.out _ _ ⟨aAa HT4.out,aAa HT4.out,aAa HT4.out,aAa HT4.out,aAa HT4.out⟩ (fun hHeld=>?_)
 clear hK K
 try simp only [Act.put,siT,scZ,scS]
 refine wpAnyH_tk 7 6 ?_
 refine wpAnyH_tk 8 14 ?_
 refine wpAnyH_tk 9 15 ?_
 refine wpAnyH_tk 10 4 ?_
 refine wpAnyH_tk 11 5 ?_
 refine wpAnyH_done (by kernel_rfl) ?_ _
 refine NoPanic.normal ?_
 clear hHeld
 go_wp2
 go_ret2
 exact ⟨rfl,HB4.out⟩
end Go.Proofs.YtgckjkocmkedfabGreat
set_option maxRecDepth 100000
set_option maxHeartbeats 16000000
namespace Go.Proofs.YtgckjkocmkedfabGreat
open Go.ChangeShapes Go.WideShapes Go.ChangeAt Go.RowKit
theorem own:ownKnob Tryz.prog.godebug=none:=by kernel_rfl
end Go.Proofs.YtgckjkocmkedfabGreat
set_option maxRecDepth 100000
set_option maxHeartbeats 16000000
set_option linter.unusedVariables false
namespace Go.Proofs.YtgckjkocmkedfabGreat
open Go.RowKit
theorem asr_so (v:Value) (w:World):(Instr.typeAssert (.iface 185 v) 104 185 true).run Tryz.prog w=.ok (.tuple #[v,.bool true]) w:=by
 simp [Instr.typeAssert,run_underlying Tryz.underlying185,go_sem,Result.andThen]
theorem asr_no (v:Value) (w:World):(Instr.typeAssert (.iface 184 v) 104 185 true).run Tryz.prog w=.ok (.tuple #[.slice none 0 0,.bool false]) w:=by
 simp [Instr.typeAssert,run_underlying Tryz.underlying185,Result.andThen]
theorem xk_eq {i:Nat} {c:Int} {r o:List Val} (h:col o c=col r c) (ho:(fst o).ok∧(fst o).err=0) (hr:(fst r).ok∧(fst r).err=0):(xk i c o=xk i c r)↔fst o=fst r:=by
 constructor
 ·intro e
  unfold xk at e
  rw [h] at e
  simp only [List.cons.injEq,true_and] at e
  exact bytes_inj ho.1 ho.2 hr.1 hr.2 (List.append_cancel_left e)
 ·intro e
  unfold xk
  rw [h,e]
theorem hps0 {B B1:Nat} {w:World} {v:Value} {F:List Ch} (h:PSW B B1 w v F):PSW B 0 w v F:=RwK.mono h fun _ _=>Nat.zero_le _
structure TRG (L M G:Nat) (dv:Value) (num:Nat) (nm:ByteArray) (ca:Option Addr) (cl cc:Nat) (xa:Option Addr) (xl xc:Nat) (pv:Value) (va:Option Addr) (vn vc cn:Nat) (xu:Bool) (w0 w:World):Prop where
 x:TRX L M dv num nm ca cl cc xa xl xc pv va vn vc w0 w
 g:w.heap[G]?=some (.cells #[.int .i64 (cn:Int),.bool xu] 152 (0,0))
theorem TRG.next {L M G:Nat} {dv:Value} {num:Nat} {nm:ByteArray} {ca:Option Addr} {cl cc:Nat} {xa:Option Addr} {xl xc:Nat} {pv:Value} {va:Option Addr} {vn vc cn:Nat} {xu:Bool} {w0 w w':World} (h:TRG L M G dv num nm ca cl cc xa xl xc pv va vn vc cn xu w0 w) (hb:Below w.heap.size w w'):TRG L M G dv num nm ca cl cc xa xl xc pv va vn vc cn xu w0 w' :=
 ⟨h.x.next hb,(hb.block G (aAe h.g)).trans h.g⟩
theorem own_255 {w:World}:BS (w.alloc (.cells #[.int .u8 255] 5)) (some ⟨w.heap.size,0,none⟩) 1 1 [255]:=by
 refine ⟨rfl,by omega,by omega,by omega,fun n hn=>by simp at hn;omega,(fun q=>by cases q),fun x hx i hi=>?_⟩
 cases hx
 have:i=0:=by omega
 subst this
 rw [add_plain]
 exact aAa (boxed w _)
theorem aC7 {i c:Nat} {A:List Nat} (h:A.length≤58):(i::c::A).take 60=i::c::A:=List.take_of_length_le (by simp only [List.length_cons];omega)
theorem mayStand_ok [Gd] {B p q g ls db i:Nat} {v pv:Value} {cs:List Ch} {W w0 w:World} {T:List Tbl} {t:Tbl} {r:List Val} {ca xa va:Option Addr} {cc xl xc vn vc:Nat} (h:DR B p q g ls db v cs W w0 w) (I:Inv cs T) (hl:cs.length≤1000) (hti:T[i]?=some t) (hr:RowOk t.s r) (hv:HVs w va vn vc r) (hx:SVK fX 2 w xa xl xc t.s.xs) :
  Calls Tryz.prog 84 #[.agg #[.pointer (some ⟨db,0,none⟩),.int .u8 (i:Int),.string t.s.nm,.slice ca t.s.cs.length cc,.slice xa xl xc],.agg #[pv,.slice va vn vc]] w fun e w'=>e=.returned (.int .i64 (if clash t.s t.rows r=true then 64 else 0))∧Below w.heap.size w w':=by
 have lt:∀ {k:Nat} {o:Obj} {ww:World},ww.heap[k]?=some o→k<ww.heap.size:=fun e=>(lO e)
 obtain ⟨w1,hw1⟩:∃ w1,w1=(w.alloc (.cells #[.pointer (some ⟨db,0,none⟩),.int .u8 (i:Int),.string t.s.nm,.slice ca t.s.cs.length cc,.slice xa xl xc] 86)).alloc (.cells #[pv,.slice va vn vc] 92):=⟨_,rfl⟩
 have ht:TRX w.heap.size (w.heap.size+1) (.pointer (some ⟨db,0,none⟩)) i t.s.nm ca t.s.cs.length cc xa xl xc pv va vn vc w w1:=by rw [hw1];exact TRX.new w
 obtain ⟨L,hL⟩:∃ L,w.heap.size=L:=⟨_,rfl⟩
 obtain ⟨M,hM⟩:∃ M,L+1=M:=⟨_,rfl⟩
 rw [hL,hM] at ht
 have HX1:=aAb ht
 have htm:=at_mem hti
 have HOK:=aAb (I.ok t htm)
 have hi4:i<256:=by have:=(lL hti);have:=I.len;omega
 have HI4:=aAb hi4
 have HD:=aAb h
 have HI:=aAb I
 have HLN:=aAb hl
 have HTI:=aAb hti
 have HR:=aAb hr
 have HV:=aAb hv
 have HIX:=aAb hx
 have HXL:Hid (t.s.xs.length=xl):=hx.hl
 have HX3:Hid (xl≤3):=by show xl≤3;rw [←HXL.out];exact (Sch.parts (I.ok t htm)).2.2.1
 have HFV:Hid ((fst r).ok∧(fst r).err=0∧(fst r).bytes.length≤28):=hr.val (hr.fmem (I.ok t htm))
 have HF0:Hid (r[0]?=some (fst r)):=by
  show _=_
  have:=hr.pos (I.ok t htm)
  rw [gE this]
  unfold fst
  rw [List.getD_eq_getElem?_getD,gE this]
  rfl
 have HW1:=aAb hw1
 have HLL:=aAb hL
 obtain ⟨rv,hrv⟩:∃ rv:Int,(if clash t.s t.rows r=true then (64:Int) else 0)=rv:=⟨_,rfl⟩
 have HRV:=aAb hrv
 rw [hL,hrv]
 clear h I hl hti hr hv hx htm hi4 hw1 ht hrv
 go_enter Tryz.func84,Tryz.ntmps84
 go_upto_region 1 with fail
 rw [←HW1.out]
 try simp only [hL,hM]
 clear HW1
 have y34:w1.cell? ⟨L,4,none⟩=some (.slice xa xl xc):=aAa HX1.out.t
 go_wp2_with fail
 clear y34
 go_loopg [15] xl (fun gh s15 wx=>∃ j:Nat,j+gh=xl∧s15=.int .i64 (j:Int)∧(t.s.xs.take j).any (clashX t.rows r)=false∧TRX L M (.pointer (some ⟨db,0,none⟩)) i t.s.nm ca t.s.cs.length cc xa xl xc pv va vn vc w wx)
 case atStart=>exact ⟨0,by omega,rfl,rfl,HX1.out⟩
 case round =>
  obtain ⟨j,hj,rfl,hno,htr⟩:=hrel
  have HNO:=aAb hno
  have HTR:=aAb htr
  clear hno htr HX1
  by_cases hjn:j<xl
  ·have xj:(j:Int)<(xl:Int):=by omega
   have x6:(xl:Int)≤9223372036854775807:=by have:=HX3.out;omega
   obtain ⟨ix,hix⟩:∃ x,t.s.xs[j]?=some x:=⟨_,gE (by rw [HXL.out];exact hjn)⟩
   have hxm:ix∈t.s.xs:=mG hix
   have hcol:=Sch.xcol HOK.out ix hxm
   have hcv:=HR.out.val (HR.out.cmem HOK.out hxm)
   have HXM:=aAb hxm
   have HTK:Hid ((t.s.xs.take (j+1)).any (clashX t.rows r)=clashX t.rows r ix):=by
    show _=_
    rw [List.take_add_one,hix,List.any_append,HNO.out,Bool.false_or]
    show (clashX t.rows r ix || false)=_
    rw [Bool.or_false]
   obtain ⟨xb,xo,exa,hxb,hxc⟩:=HIX.out.pl (by omega)
   have q0:=hxc j ix hix 0 (by omega)
   have q1:=hxc j ix hix 1 (by omega)
   obtain ⟨xi,xu⟩:=ix
   obtain ⟨cn,hcn⟩:∃ n:Nat,xi=(n:Int):=⟨xi.toNat,by have:=hcol.1;dsimp only at this;omega⟩
   subst hcn
   dsimp only at hcol hcv
   have hrl:=HR.out.len
   have hc3:=(Sch.c3 HOK.out).2
   have HCG:Hid (r[cn]?=some (r.getD cn vz)):=by
    show _=_
    rw [List.getD_eq_getElem?_getD,gE (by omega)]
    rfl
   have HCC:Hid (col r (cn:Int)=r.getD cn vz):=rfl
   have HCV:Hid ((r.getD cn vz).ok∧(r.getD cn vz).err=0∧(r.getD cn vz).bytes.length≤28):=hcv
   have HCP:Hid (0<(r.getD cn vz).bytes.length):=by
    obtain ⟨h9,_,_,h8⟩:=aB3 [] HCV.out.1 HCV.out.2.1
    exact List.length_pos_iff.2 h8
   have HC2:Hid (cn<256):=by show cn<256;omega
   obtain ⟨vb,vo,ka,kn,kc,eva,hvb,hvc,hvbs⟩:=HV.out.at HCG.out
   have hvl:cn<vn:=by have:=HV.out.len;omega
   have hvcap:vn≤vc:=by obtain ⟨_,hsv0,_⟩:=HV.out;exact hsv0.hc
   have hkn:(r.getD cn vz).bytes.length=kn:=hvbs.hlen
   have hxcc:=HIX.out.hc
   subst exa eva
   have hbw:Below w.heap.size w wr:=HTR.out.be
   have y34:wr.cell? ⟨L,4,none⟩=some (.slice (some ⟨xb,xo,none⟩) xl xc):=aAa HTR.out.t
   have q0':wr.cell? ⟨xb,xo+j*2,none⟩=some (.int .i64 (cn:Int)):=(hbw.cell hxb).trans q0
   have q1':wr.cell? ⟨xb,xo+j*2+1,none⟩=some (.bool xu):=(hbw.cell hxb).trans q1
   have x5:(0:Int)≤(j:Int):=by omega
   have hbx:=aAf wr (.cells #[.int .i64 (cn:Int),.bool xu] 152)
   have HT3:Hid (TRG L M wr.heap.size (.pointer (some ⟨db,0,none⟩)) i t.s.nm ca t.s.cs.length cc (some ⟨xb,xo,none⟩) xl xc pv (some ⟨vb,vo,none⟩) vn vc cn xu w (wr.alloc (.cells #[.int .i64 (cn:Int),.bool xu] 152))):=⟨HTR.out.next hbx,boxed wr _⟩
   have HVC:Hid (vb<w.heap.size∧w.cell? ⟨vb,vo+cn,none⟩=some (.iface (hT (r.getD cn vz)) (.slice ka kn kc))):=⟨hvb,hvc⟩
   have HBV:Hid (BS w ka kn kc (r.getD cn vz).bytes):=hvbs
   have HKN:Hid (kn≤28∧0<kn):=⟨by have:=HCV.out.2.2;omega,by have:=HCP.out;omega⟩
   have HKE:=aAb hkn
   clear q0 q1 hxc hcol hcv hix hxm hrl hc3 hvc hvbs hbx hbw hkn
   go_upto_region 4 with fail
   clear y34 q0' q1'
   generalize wr.alloc (.cells #[.int .i64 (cn:Int),.bool xu] 152)=w3 at *
   generalize wr.heap.size=G at *
   have m1:w3.cell? ⟨M,1,none⟩=some (.slice (some ⟨vb,vo,none⟩) vn vc):=aAa HT3.out.x.r
   have g0:w3.cell? ⟨G,0,none⟩=some (.int .i64 (cn:Int)):=aAa HT3.out.g
   have g1:w3.cell? ⟨G,1,none⟩=some (.bool xu):=aAa HT3.out.g
   have vv:w3.cell? ⟨vb,vo+cn,none⟩=some (.iface (hT (r.getD cn vz)) (.slice ka kn kc)):=(HT3.out.x.be.cell HVC.out.1).trans HVC.out.2
   have xc0:(0:Int)≤(cn:Int):=by omega
   have xc1:(cn:Int)<(vn:Int):=by omega
   have xc2:(vn:Int)≤(vc:Int):=by omega
   by_cases hz:(r.getD cn vz).1=0
   ·have ehT:hT (r.getD cn vz)=184:=if_pos hz
    rw [ehT] at vv
    have ta:=fun ww=>asr_no (.slice ka kn kc) ww
    have HCX:Hid (clashX t.rows r ((cn:Int),xu)=false):=by
     show (xu && (decide ((col r (cn:Int)).1≠0) && _))=false
     rw [HCC.out,decide_eq_false (by rw [Decidable.not_not];exact hz),Bool.false_and,Bool.and_false]
    clear hz ehT
    go_wp2
    go_roundg (gk-1)
    case measure=>omega
    case rel=>exact ⟨j+1,by omega,rfl,by rw [HTK.out];exact HCX.out,HT3.out.x⟩
   ·have ehT:hT (r.getD cn vz)=185:=if_neg hz
    rw [ehT] at vv
    have ta:=fun ww=>asr_so (.slice ka kn kc) ww
    have HZ:=aAb hz
    clear hz ehT
    cases xu with
    | false =>
     have HCX:Hid (clashX t.rows r ((cn:Int),false)=false):=rfl
     go_wp2
     go_roundg (gk-1)
     case measure=>omega
     case rel=>exact ⟨j+1,by omega,rfl,by rw [HTK.out];exact HCX.out,HT3.out.x⟩
    | true =>
     have HT4:Hid (TRG L M G (.pointer (some ⟨db,0,none⟩)) i t.s.nm ca t.s.cs.length cc (some ⟨xb,xo,none⟩) xl xc pv (some ⟨vb,vo,none⟩) vn vc cn true w w3.drew):=HT3.out.next (Below.refl _ _).drew
     have HBV4:Hid (BS w3.drew ka kn kc (r.getD cn vz).bytes):=HBV.out.later HT4.out.x.be (nR _)
     go_upto_region 6 with fail
     clear m1 g0 g1 vv ta
     obtain ⟨Lr,hLr⟩:∃ Lr,rngC cs 1 (i::cn::(r.getD cn vz).bytes) (i::cn::((r.getD cn vz).bytes++[255])) 1=Lr:=⟨_,rfl⟩
     obtain ⟨nl,hnl⟩:∃ nl,Lr.length=nl:=⟨_,rfl⟩
     have HLr:=aAb hLr
     have HNL:=aAb hnl
     clear hLr hnl
     go_cut [9,10,15] from 15 to 76 (fun s9 s10 s15 wx=>s15=.int .i64 (j:Int)∧s10=.int .i64 0∧∃ a9 c9,s9=.slice a9 nl c9∧TRG L M G (.pointer (some ⟨db,0,none⟩)) i t.s.nm ca t.s.cs.length cc (some ⟨xb,xo,none⟩) xl xc pv (some ⟨vb,vo,none⟩) vn vc cn true w wx∧PSW B 0 wx (.slice a9 nl c9) Lr)
     case first =>
      have HX0:Hid ((fun wx:World=>wx.cell? ⟨L,0,none⟩=some (.pointer (some ⟨db,0,none⟩))∧wx.cell? ⟨L,1,none⟩=some (.int .u8 (i:Int))∧wx.cell? ⟨L,2,none⟩=some (.string t.s.nm)∧wx.cell? ⟨L,3,none⟩=some (.slice ca t.s.cs.length cc)∧wx.cell? ⟨L,4,none⟩=some (.slice (some ⟨xb,xo,none⟩) xl xc)∧wx.cell? ⟨G,0,none⟩=some (.int .i64 (cn:Int))) w3.drew):=⟨aAa HT4.out.x.t,aAa HT4.out.x.t,aAa HT4.out.x.t,aAa HT4.out.x.t,aAa HT4.out.x.t,aAa HT4.out.g⟩
      refine wp_region_noPanic ?_
      refine wp_region_held_drew (S:=fun wx=>wx.cell? ⟨L,0,none⟩=some (.pointer (some ⟨db,0,none⟩))∧wx.cell? ⟨L,1,none⟩=some (.int .u8 (i:Int))∧wx.cell? ⟨L,2,none⟩=some (.string t.s.nm)∧wx.cell? ⟨L,3,none⟩=some (.slice ca t.s.cs.length cc)∧wx.cell? ⟨L,4,none⟩=some (.slice (some ⟨xb,xo,none⟩) xl xc)∧wx.cell? ⟨G,0,none⟩=some (.int .i64 (cn:Int))) (by kernel_rfl) HX0.out (fun hHeld=>?_)
      generalize w3.drew=w4 at *
      refine wpAnyH_tk 0 37 ?_
      refine wpAnyH_tk 1 38 ?_
      refine wpAnyH_tk 2 39 ?_
      refine wpAnyH_tk 3 40 ?_
      refine wpAnyH_tk 4 41 ?_
      refine wpAnyH_tk 5 42 ?_
      refine wpAnyH_tk 8 45 ?_
      refine wpAnyH_tk 9 46 ?_
      refine wpAnyH_tk 10 47 ?_
      refine wpAnyH_tk 11 48 ?_
      refine aAl (i:=6) (j:=12) (by kernel_rfl) (by kernel_rfl) (by kernel_rfl) ?za1 ?zb1
      case za1 =>
       intro o ho K hK
       simp only [List.getElem?_toArray,List.getElem?_cons_succ,List.getElem?_cons_zero,oI] at ho
       subst ho
       go_simp
       have hbx:=aAf w4 (.cells #[.slice ka kn kc] 82)
       have HT5:=aAb (HT4.out.next hbx)
       have HBV5:=aAb (HBV4.out.later hbx (nR _))
       have HP15:Hid ((w4.alloc (.cells #[.slice ka kn kc] 82)).cell? ⟨w4.heap.size,0,none⟩=some (.slice ka kn kc)):=aDy _
       clear hbx hHeld
       refine hK.out _ _ ⟨aAa HT5.out.x.t,aAa HT5.out.x.t,aAa HT5.out.x.t,aAa HT5.out.x.t,aAa HT5.out.x.t,aAa HT5.out.g⟩ (fun hHeld=>?_)
       generalize w4.alloc (.cells #[.slice ka kn kc] 82)=w5 at *
       generalize w4.heap.size=p1 at *
       clear hK K
       try simp only [Act.put,siT,scZ,scS]
       refine aAl (i:=7) (j:=12) (by kernel_rfl) (by kernel_rfl) (by kernel_rfl) ?za2 ?zb2
       case za2 =>
        intro o ho K hK
        simp only [List.getElem?_toArray,List.getElem?_cons_succ,List.getElem?_cons_zero,oI] at ho
        subst ho
        go_simp
        refine (aD2 (ys:=(r.getD cn vz).bytes) HI4.out HC2.out HBV5.out.hlen (by have:=HKN.out;omega) HKN.out.2 HBV5.out.hbyte (fun ww hb=>join_one _ ((hb.cell (aAk HP15.out)).trans HP15.out) (HBV5.out.later hb (nR _)) HKN.out.2)).mono ?_
        rintro e w6 ⟨k1a,k1c,rfl,hbs,hub,hbl⟩
        rw [aC7 (by have:=HCV.out.2.2;omega)] at hbs
        have HT6:=aAb (HT5.out.next hbl)
        have HBV6:=aAb (HBV5.out.later hbl (nR _))
        have HK16:=aAb (And.intro hbs hub)
        clear hbs hub hbl hHeld
        refine hK.out _ _ ⟨aAa HT6.out.x.t,aAa HT6.out.x.t,aAa HT6.out.x.t,aAa HT6.out.x.t,aAa HT6.out.x.t,aAa HT6.out.g⟩ (fun hHeld=>?_)
        clear hK K
        try simp only [Act.put,siT,scZ,scS]
        refine wpAnyH_cm 12 ?_;intro K hK
        go_simp
        have hbx:=aAf w6 (.cells #[.int .u8 255] 5)
        have HT7:=aAb (HT6.out.next hbx)
        have HBV7:=aAb (HBV6.out.later hbx (nR _))
        have HK17:=aAb (And.intro (HK16.out.1.later hbx (nR _)) (HK16.out.2.later hbx))
        have HF7:Hid (BS (w6.alloc (.cells #[.int .u8 255] 5)) (some ⟨w6.heap.size,0,none⟩) 1 1 [255]):=own_255
        clear hbx hHeld
        refine hK.out _ _ ⟨aAa HT7.out.x.t,aAa HT7.out.x.t,aAa HT7.out.x.t,aAa HT7.out.x.t,aAa HT7.out.x.t,aAa HT7.out.g⟩ (fun hHeld=>?_)
        generalize w6.alloc (.cells #[.int .u8 255] 5)=w7 at *
        generalize w6.heap.size=fb at *
        clear hK K
        try simp only [Act.put,siT,scZ,scS]
        refine wpAnyH_cm 13 ?_;intro K hK
        go_simp
        have hbx:=aAf w7 (.cells #[.slice ka kn kc,.slice (some ⟨fb,0,none⟩) 1 1] 82)
        have HT8:=aAb (HT7.out.next hbx)
        have HBV8:=aAb (HBV7.out.later hbx (nR _))
        have HK18:=aAb (And.intro (HK17.out.1.later hbx (nR _)) (HK17.out.2.later hbx))
        have HF8:=aAb (HF7.out.later hbx (nR _))
        have HP28:=aAb (aB1 w7 (.slice ka kn kc) (.slice (some ⟨fb,0,none⟩) 1 1) 82)
        clear hbx hHeld
        refine hK.out _ _ ⟨aAa HT8.out.x.t,aAa HT8.out.x.t,aAa HT8.out.x.t,aAa HT8.out.x.t,aAa HT8.out.x.t,aAa HT8.out.g⟩ (fun hHeld=>?_)
        generalize w7.alloc (.cells #[.slice ka kn kc,.slice (some ⟨fb,0,none⟩) 1 1] 82)=w8 at *
        generalize w7.heap.size=p2 at *
        clear hK K
        try simp only [Act.put,siT,scZ,scS]
        refine wpAnyH_cm 14 ?_;intro K hK
        go_simp
        refine (aD2 (m:=kn+1) (ys:=(r.getD cn vz).bytes++[255]) HI4.out HC2.out (by rw [lA,HKE.out];rfl) (by have:=HKN.out;omega) (by omega) (fun n hn=>by rcases List.mem_append.1 hn with q | q;exact HBV8.out.hbyte n q;exact HF8.out.hbyte n q) (fun ww hb=>aCx ((hb.cell (aAk HP28.out.1)).trans HP28.out.1) ((hb.cell (aAk HP28.out.2)).trans HP28.out.2) (HBV8.out.later hb (nR _)) (HF8.out.later hb (nR _)) (nR _) (by have:=HKN.out;omega) (by omega))).mono ?_
        rintro e w9 ⟨k2a,k2c,rfl,hbs,hub,hbl⟩
        rw [aC7 (by rw [lA];have:=HCV.out.2.2;show _+1≤_;omega)] at hbs
        have HT9:=aAb (HT8.out.next hbl)
        have HBV9:=aAb (HBV8.out.later hbl (nR _))
        have HK19:=aAb (And.intro (HK18.out.1.later hbl (nR _)) (HK18.out.2.later hbl))
        have HK29:=aAb (And.intro hbs hub)
        clear hbs hub hbl hHeld
        refine hK.out _ _ ⟨aAa HT9.out.x.t,aAa HT9.out.x.t,aAa HT9.out.x.t,aAa HT9.out.x.t,aAa HT9.out.x.t,aAa HT9.out.g⟩ (fun hHeld=>?_)
        clear hK K
        try simp only [Act.put,siT,scZ,scS]
        refine wpAnyH_cm 15 ?_;intro K hK
        go_simp
        have HDR:=aAb (HD.out.later HT9.out.x.be)
        have hrg:=aBg (sp:=1) (most:=1) HDR.out.now HDR.out.dd HLN.out (by omega) (aBx HK19.out.1 HK19.out.2) (aBx HK29.out.1 HK29.out.2) (by omega) (by omega) (by omega) (by omega)
        refine hrg.mono ?_
        rintro e w10 ⟨v9,rfl,hps,hbl⟩
        rw [show rngC cs ((1:Nat):Int)=rngC cs 1 from rfl,HLr.out] at hps
        obtain ⟨a9,c9,e9⟩:=hps.form
        rw [HNL.out] at e9
        subst e9
        have HT10:=aAb (HT9.out.next hbl)
        have HBV10:=aAb (HBV9.out.later hbl (nR _))
        have HPS:=aAb hps
        clear hrg hps hbl hHeld HDR
        refine hK.out _ _ ⟨aAa HT10.out.x.t,aAa HT10.out.x.t,aAa HT10.out.x.t,aAa HT10.out.x.t,aAa HT10.out.x.t,aAa HT10.out.g⟩ (fun hHeld=>?_)
        clear hK K
        try simp only [Act.put,siT,scZ,scS]
        refine wpAnyH_tk 16 36 ?_
        refine wpAnyH_tk 17 53 ?_
        refine wpAnyH_tk 18 54 ?_
        refine wpAnyH_tk 19 9 ?_
        refine wpAnyH_tk 20 10 ?_
        refine wpAnyH_done (by kernel_rfl) ?_ _
        refine NoPanic.normal ?_
        clear hHeld
        have HPZ:=aAb (hps0 HPS.out)
        go_wp2
        go_meet
        exact ⟨rfl,rfl,_,_,rfl,HT10.out,HPZ.out⟩
       case zb2 =>
        intro o ho K hK
        simp only [List.getElem?_toArray,List.getElem?_cons_succ,List.getElem?_cons_zero,oI] at ho
        subst ho
        go_simp
        have hbx:=aAf w5 (.cells #[.int .u8 255] 5)
        have HT6:=aAb (HT5.out.next hbx)
        have HBV6:=aAb (HBV5.out.later hbx (nR _))
        have HP16:=aAb ((hbx.cell (aAk HP15.out)).trans HP15.out)
        have HF6:Hid (BS (w5.alloc (.cells #[.int .u8 255] 5)) (some ⟨w5.heap.size,0,none⟩) 1 1 [255]):=own_255
        clear hbx hHeld
        refine hK.out _ _ ⟨aAa HT6.out.x.t,aAa HT6.out.x.t,aAa HT6.out.x.t,aAa HT6.out.x.t,aAa HT6.out.x.t,aAa HT6.out.g⟩ (fun hHeld=>?_)
        generalize w5.alloc (.cells #[.int .u8 255] 5)=w6 at *
        generalize w5.heap.size=fb at *
        clear hK K
        try simp only [Act.put,siT,scZ,scS]
        refine aAl (i:=7) (j:=13) (by kernel_rfl) (by kernel_rfl) (by kernel_rfl) ?za4 ?zb4
        case za4 =>
         intro o ho K hK
         simp only [List.getElem?_toArray,List.getElem?_cons_succ,List.getElem?_cons_zero,oI] at ho
         subst ho
         go_simp
         refine (aD2 (ys:=(r.getD cn vz).bytes) HI4.out HC2.out HBV6.out.hlen (by have:=HKN.out;omega) HKN.out.2 HBV6.out.hbyte (fun ww hb=>join_one _ ((hb.cell (aAk HP16.out)).trans HP16.out) (HBV6.out.later hb (nR _)) HKN.out.2)).mono ?_
         rintro e w7 ⟨k1a,k1c,rfl,hbs,hub,hbl⟩
         rw [aC7 (by have:=HCV.out.2.2;omega)] at hbs
         have HT7:=aAb (HT6.out.next hbl)
         have HBV7:=aAb (HBV6.out.later hbl (nR _))
         have HF7:=aAb (HF6.out.later hbl (nR _))
         have HK17:=aAb (And.intro hbs hub)
         clear hbs hub hbl hHeld
         refine hK.out _ _ ⟨aAa HT7.out.x.t,aAa HT7.out.x.t,aAa HT7.out.x.t,aAa HT7.out.x.t,aAa HT7.out.x.t,aAa HT7.out.g⟩ (fun hHeld=>?_)
         clear hK K
         try simp only [Act.put,siT,scZ,scS]
         refine wpAnyH_cm 13 ?_;intro K hK
         go_simp
         have hbx:=aAf w7 (.cells #[.slice ka kn kc,.slice (some ⟨fb,0,none⟩) 1 1] 82)
         have HT8:=aAb (HT7.out.next hbx)
         have HBV8:=aAb (HBV7.out.later hbx (nR _))
         have HF8:=aAb (HF7.out.later hbx (nR _))
         have HK18:=aAb (And.intro (HK17.out.1.later hbx (nR _)) (HK17.out.2.later hbx))
         have HP28:=aAb (aB1 w7 (.slice ka kn kc) (.slice (some ⟨fb,0,none⟩) 1 1) 82)
         clear hbx hHeld
         refine hK.out _ _ ⟨aAa HT8.out.x.t,aAa HT8.out.x.t,aAa HT8.out.x.t,aAa HT8.out.x.t,aAa HT8.out.x.t,aAa HT8.out.g⟩ (fun hHeld=>?_)
         generalize w7.alloc (.cells #[.slice ka kn kc,.slice (some ⟨fb,0,none⟩) 1 1] 82)=w8 at *
         generalize w7.heap.size=p2 at *
         clear hK K
         try simp only [Act.put,siT,scZ,scS]
         refine wpAnyH_cm 14 ?_;intro K hK
         go_simp
         refine (aD2 (m:=kn+1) (ys:=(r.getD cn vz).bytes++[255]) HI4.out HC2.out (by rw [lA,HKE.out];rfl) (by have:=HKN.out;omega) (by omega) (fun n hn=>by rcases List.mem_append.1 hn with q | q;exact HBV8.out.hbyte n q;exact HF8.out.hbyte n q) (fun ww hb=>aCx ((hb.cell (aAk HP28.out.1)).trans HP28.out.1) ((hb.cell (aAk HP28.out.2)).trans HP28.out.2) (HBV8.out.later hb (nR _)) (HF8.out.later hb (nR _)) (nR _) (by have:=HKN.out;omega) (by omega))).mono ?_
         rintro e w9 ⟨k2a,k2c,rfl,hbs,hub,hbl⟩
         rw [aC7 (by rw [lA];have:=HCV.out.2.2;show _+1≤_;omega)] at hbs
         have HT9:=aAb (HT8.out.next hbl)
         have HBV9:=aAb (HBV8.out.later hbl (nR _))
         have HK19:=aAb (And.intro (HK18.out.1.later hbl (nR _)) (HK18.out.2.later hbl))
         have HK29:=aAb (And.intro hbs hub)
         clear hbs hub hbl hHeld
         refine hK.out _ _ ⟨aAa HT9.out.x.t,aAa HT9.out.x.t,aAa HT9.out.x.t,aAa HT9.out.x.t,aAa HT9.out.x.t,aAa HT9.out.g⟩ (fun hHeld=>?_)
         clear hK K
         try simp only [Act.put,siT,scZ,scS]
         refine wpAnyH_cm 15 ?_;intro K hK
         go_simp
         have HDR:=aAb (HD.out.later HT9.out.x.be)
         have hrg:=aBg (sp:=1) (most:=1) HDR.out.now HDR.out.dd HLN.out (by omega) (aBx HK19.out.1 HK19.out.2) (aBx HK29.out.1 HK29.out.2) (by omega) (by omega) (by omega) (by omega)
         refine hrg.mono ?_
         rintro e w10 ⟨v9,rfl,hps,hbl⟩
         rw [show rngC cs ((1:Nat):Int)=rngC cs 1 from rfl,HLr.out] at hps
         obtain ⟨a9,c9,e9⟩:=hps.form
         rw [HNL.out] at e9
         subst e9
         have HT10:=aAb (HT9.out.next hbl)
         have HBV10:=aAb (HBV9.out.later hbl (nR _))
         have HPS:=aAb hps
         clear hrg hps hbl hHeld HDR
         refine hK.out _ _ ⟨aAa HT10.out.x.t,aAa HT10.out.x.t,aAa HT10.out.x.t,aAa HT10.out.x.t,aAa HT10.out.x.t,aAa HT10.out.g⟩ (fun hHeld=>?_)
         clear hK K
         try simp only [Act.put,siT,scZ,scS]
         refine wpAnyH_tk 16 36 ?_
         refine wpAnyH_tk 17 53 ?_
         refine wpAnyH_tk 18 54 ?_
         refine wpAnyH_tk 19 9 ?_
         refine wpAnyH_tk 20 10 ?_
         refine wpAnyH_done (by kernel_rfl) ?_ _
         refine NoPanic.normal ?_
         clear hHeld
         have HPZ:=aAb (hps0 HPS.out)
         go_wp2
         go_meet
         exact ⟨rfl,rfl,_,_,rfl,HT10.out,HPZ.out⟩
        case zb4 =>
         intro o ho K hK
         simp only [List.getElem?_toArray,List.getElem?_cons_succ,List.getElem?_cons_zero,oI] at ho
         subst ho
         go_simp
         have hbx:=aAf w6 (.cells #[.slice ka kn kc,.slice (some ⟨fb,0,none⟩) 1 1] 82)
         have HT7:=aAb (HT6.out.next hbx)
         have HBV7:=aAb (HBV6.out.later hbx (nR _))
         have HP17:=aAb ((hbx.cell (aAk HP16.out)).trans HP16.out)
         have HF7:=aAb (HF6.out.later hbx (nR _))
         have HP27:=aAb (aB1 w6 (.slice ka kn kc) (.slice (some ⟨fb,0,none⟩) 1 1) 82)
         clear hbx hHeld
         refine hK.out _ _ ⟨aAa HT7.out.x.t,aAa HT7.out.x.t,aAa HT7.out.x.t,aAa HT7.out.x.t,aAa HT7.out.x.t,aAa HT7.out.g⟩ (fun hHeld=>?_)
         generalize w6.alloc (.cells #[.slice ka kn kc,.slice (some ⟨fb,0,none⟩) 1 1] 82)=w7 at *
         generalize w6.heap.size=p2 at *
         clear hK K
         try simp only [Act.put,siT,scZ,scS]
         refine wpAnyH_cm 7 ?_;intro K hK
         go_simp
         refine (aD2 (ys:=(r.getD cn vz).bytes) HI4.out HC2.out HBV7.out.hlen (by have:=HKN.out;omega) HKN.out.2 HBV7.out.hbyte (fun ww hb=>join_one _ ((hb.cell (aAk HP17.out)).trans HP17.out) (HBV7.out.later hb (nR _)) HKN.out.2)).mono ?_
         rintro e w8 ⟨k1a,k1c,rfl,hbs,hub,hbl⟩
         rw [aC7 (by have:=HCV.out.2.2;omega)] at hbs
         have HT8:=aAb (HT7.out.next hbl)
         have HBV8:=aAb (HBV7.out.later hbl (nR _))
         have HP28:=aAb (And.intro ((hbl.cell (aAk HP27.out.1)).trans HP27.out.1) ((hbl.cell (aAk HP27.out.2)).trans HP27.out.2))
         have HF8:=aAb (HF7.out.later hbl (nR _))
         have HK18:=aAb (And.intro hbs hub)
         clear hbs hub hbl hHeld
         refine hK.out _ _ ⟨aAa HT8.out.x.t,aAa HT8.out.x.t,aAa HT8.out.x.t,aAa HT8.out.x.t,aAa HT8.out.x.t,aAa HT8.out.g⟩ (fun hHeld=>?_)
         clear hK K
         try simp only [Act.put,siT,scZ,scS]
         refine wpAnyH_cm 14 ?_;intro K hK
         go_simp
         refine (aD2 (m:=kn+1) (ys:=(r.getD cn vz).bytes++[255]) HI4.out HC2.out (by rw [lA,HKE.out];rfl) (by have:=HKN.out;omega) (by omega) (fun n hn=>by rcases List.mem_append.1 hn with q | q;exact HBV8.out.hbyte n q;exact HF8.out.hbyte n q) (fun ww hb=>aCx ((hb.cell (aAk HP28.out.1)).trans HP28.out.1) ((hb.cell (aAk HP28.out.2)).trans HP28.out.2) (HBV8.out.later hb (nR _)) (HF8.out.later hb (nR _)) (nR _) (by have:=HKN.out;omega) (by omega))).mono ?_
         rintro e w9 ⟨k2a,k2c,rfl,hbs,hub,hbl⟩
         rw [aC7 (by rw [lA];have:=HCV.out.2.2;show _+1≤_;omega)] at hbs
         have HT9:=aAb (HT8.out.next hbl)
         have HBV9:=aAb (HBV8.out.later hbl (nR _))
         have HK19:=aAb (And.intro (HK18.out.1.later hbl (nR _)) (HK18.out.2.later hbl))
         have HK29:=aAb (And.intro hbs hub)
         clear hbs hub hbl hHeld
         refine hK.out _ _ ⟨aAa HT9.out.x.t,aAa HT9.out.x.t,aAa HT9.out.x.t,aAa HT9.out.x.t,aAa HT9.out.x.t,aAa HT9.out.g⟩ (fun hHeld=>?_)
         clear hK K
         try simp only [Act.put,siT,scZ,scS]
         refine wpAnyH_cm 15 ?_;intro K hK
         go_simp
         have HDR:=aAb (HD.out.later HT9.out.x.be)
         have hrg:=aBg (sp:=1) (most:=1) HDR.out.now HDR.out.dd HLN.out (by omega) (aBx HK19.out.1 HK19.out.2) (aBx HK29.out.1 HK29.out.2) (by omega) (by omega) (by omega) (by omega)
         refine hrg.mono ?_
         rintro e w10 ⟨v9,rfl,hps,hbl⟩
         rw [show rngC cs ((1:Nat):Int)=rngC cs 1 from rfl,HLr.out] at hps
         obtain ⟨a9,c9,e9⟩:=hps.form
         rw [HNL.out] at e9
         subst e9
         have HT10:=aAb (HT9.out.next hbl)
         have HBV10:=aAb (HBV9.out.later hbl (nR _))
         have HPS:=aAb hps
         clear hrg hps hbl hHeld HDR
         refine hK.out _ _ ⟨aAa HT10.out.x.t,aAa HT10.out.x.t,aAa HT10.out.x.t,aAa HT10.out.x.t,aAa HT10.out.x.t,aAa HT10.out.g⟩ (fun hHeld=>?_)
         clear hK K
         try simp only [Act.put,siT,scZ,scS]
         refine wpAnyH_tk 16 36 ?_
         refine wpAnyH_tk 17 53 ?_
         refine wpAnyH_tk 18 54 ?_
         refine wpAnyH_tk 19 9 ?_
         refine wpAnyH_tk 20 10 ?_
         refine wpAnyH_done (by kernel_rfl) ?_ _
         refine NoPanic.normal ?_
         clear hHeld
         have HPZ:=aAb (hps0 HPS.out)
         go_wp2
         go_meet
         exact ⟨rfl,rfl,_,_,rfl,HT10.out,HPZ.out⟩
      case zb1 =>
       intro o ho K hK
       simp only [List.getElem?_toArray,List.getElem?_cons_succ,List.getElem?_cons_zero,oI] at ho
       subst ho
       go_simp
       have hbx:=aAf w4 (.cells #[.int .u8 255] 5)
       have HT5:=aAb (HT4.out.next hbx)
       have HBV5:=aAb (HBV4.out.later hbx (nR _))
       have HF5:Hid (BS (w4.alloc (.cells #[.int .u8 255] 5)) (some ⟨w4.heap.size,0,none⟩) 1 1 [255]):=own_255
       clear hbx hHeld
       refine hK.out _ _ ⟨aAa HT5.out.x.t,aAa HT5.out.x.t,aAa HT5.out.x.t,aAa HT5.out.x.t,aAa HT5.out.x.t,aAa HT5.out.g⟩ (fun hHeld=>?_)
       generalize w4.alloc (.cells #[.int .u8 255] 5)=w5 at *
       generalize w4.heap.size=fb at *
       clear hK K
       try simp only [Act.put,siT,scZ,scS]
       refine aAl (i:=6) (j:=13) (by kernel_rfl) (by kernel_rfl) (by kernel_rfl) ?za7 ?zb7
       case za7 =>
        intro o ho K hK
        simp only [List.getElem?_toArray,List.getElem?_cons_succ,List.getElem?_cons_zero,oI] at ho
        subst ho
        go_simp
        have hbx:=aAf w5 (.cells #[.slice ka kn kc] 82)
        have HT6:=aAb (HT5.out.next hbx)
        have HBV6:=aAb (HBV5.out.later hbx (nR _))
        have HF6:=aAb (HF5.out.later hbx (nR _))
        have HP16:Hid ((w5.alloc (.cells #[.slice ka kn kc] 82)).cell? ⟨w5.heap.size,0,none⟩=some (.slice ka kn kc)):=aDy _
        clear hbx hHeld
        refine hK.out _ _ ⟨aAa HT6.out.x.t,aAa HT6.out.x.t,aAa HT6.out.x.t,aAa HT6.out.x.t,aAa HT6.out.x.t,aAa HT6.out.g⟩ (fun hHeld=>?_)
        generalize w5.alloc (.cells #[.slice ka kn kc] 82)=w6 at *
        generalize w5.heap.size=p1 at *
        clear hK K
        try simp only [Act.put,siT,scZ,scS]
        refine aAl (i:=7) (j:=13) (by kernel_rfl) (by kernel_rfl) (by kernel_rfl) ?za8 ?zb8
        case za8 =>
         intro o ho K hK
         simp only [List.getElem?_toArray,List.getElem?_cons_succ,List.getElem?_cons_zero,oI] at ho
         subst ho
         go_simp
         refine (aD2 (ys:=(r.getD cn vz).bytes) HI4.out HC2.out HBV6.out.hlen (by have:=HKN.out;omega) HKN.out.2 HBV6.out.hbyte (fun ww hb=>join_one _ ((hb.cell (aAk HP16.out)).trans HP16.out) (HBV6.out.later hb (nR _)) HKN.out.2)).mono ?_
         rintro e w7 ⟨k1a,k1c,rfl,hbs,hub,hbl⟩
         rw [aC7 (by have:=HCV.out.2.2;omega)] at hbs
         have HT7:=aAb (HT6.out.next hbl)
         have HBV7:=aAb (HBV6.out.later hbl (nR _))
         have HF7:=aAb (HF6.out.later hbl (nR _))
         have HK17:=aAb (And.intro hbs hub)
         clear hbs hub hbl hHeld
         refine hK.out _ _ ⟨aAa HT7.out.x.t,aAa HT7.out.x.t,aAa HT7.out.x.t,aAa HT7.out.x.t,aAa HT7.out.x.t,aAa HT7.out.g⟩ (fun hHeld=>?_)
         clear hK K
         try simp only [Act.put,siT,scZ,scS]
         refine wpAnyH_cm 13 ?_;intro K hK
         go_simp
         have hbx:=aAf w7 (.cells #[.slice ka kn kc,.slice (some ⟨fb,0,none⟩) 1 1] 82)
         have HT8:=aAb (HT7.out.next hbx)
         have HBV8:=aAb (HBV7.out.later hbx (nR _))
         have HF8:=aAb (HF7.out.later hbx (nR _))
         have HK18:=aAb (And.intro (HK17.out.1.later hbx (nR _)) (HK17.out.2.later hbx))
         have HP28:=aAb (aB1 w7 (.slice ka kn kc) (.slice (some ⟨fb,0,none⟩) 1 1) 82)
         clear hbx hHeld
         refine hK.out _ _ ⟨aAa HT8.out.x.t,aAa HT8.out.x.t,aAa HT8.out.x.t,aAa HT8.out.x.t,aAa HT8.out.x.t,aAa HT8.out.g⟩ (fun hHeld=>?_)
         generalize w7.alloc (.cells #[.slice ka kn kc,.slice (some ⟨fb,0,none⟩) 1 1] 82)=w8 at *
         generalize w7.heap.size=p2 at *
         clear hK K
         try simp only [Act.put,siT,scZ,scS]
         refine wpAnyH_cm 14 ?_;intro K hK
         go_simp
         refine (aD2 (m:=kn+1) (ys:=(r.getD cn vz).bytes++[255]) HI4.out HC2.out (by rw [lA,HKE.out];rfl) (by have:=HKN.out;omega) (by omega) (fun n hn=>by rcases List.mem_append.1 hn with q | q;exact HBV8.out.hbyte n q;exact HF8.out.hbyte n q) (fun ww hb=>aCx ((hb.cell (aAk HP28.out.1)).trans HP28.out.1) ((hb.cell (aAk HP28.out.2)).trans HP28.out.2) (HBV8.out.later hb (nR _)) (HF8.out.later hb (nR _)) (nR _) (by have:=HKN.out;omega) (by omega))).mono ?_
         rintro e w9 ⟨k2a,k2c,rfl,hbs,hub,hbl⟩
         rw [aC7 (by rw [lA];have:=HCV.out.2.2;show _+1≤_;omega)] at hbs
         have HT9:=aAb (HT8.out.next hbl)
         have HBV9:=aAb (HBV8.out.later hbl (nR _))
         have HK19:=aAb (And.intro (HK18.out.1.later hbl (nR _)) (HK18.out.2.later hbl))
         have HK29:=aAb (And.intro hbs hub)
         clear hbs hub hbl hHeld
         refine hK.out _ _ ⟨aAa HT9.out.x.t,aAa HT9.out.x.t,aAa HT9.out.x.t,aAa HT9.out.x.t,aAa HT9.out.x.t,aAa HT9.out.g⟩ (fun hHeld=>?_)
         clear hK K
         try simp only [Act.put,siT,scZ,scS]
         refine wpAnyH_cm 15 ?_;intro K hK
         go_simp
         have HDR:=aAb (HD.out.later HT9.out.x.be)
         have hrg:=aBg (sp:=1) (most:=1) HDR.out.now HDR.out.dd HLN.out (by omega) (aBx HK19.out.1 HK19.out.2) (aBx HK29.out.1 HK29.out.2) (by omega) (by omega) (by omega) (by omega)
         refine hrg.mono ?_
         rintro e w10 ⟨v9,rfl,hps,hbl⟩
         rw [show rngC cs ((1:Nat):Int)=rngC cs 1 from rfl,HLr.out] at hps
         obtain ⟨a9,c9,e9⟩:=hps.form
         rw [HNL.out] at e9
         subst e9
         have HT10:=aAb (HT9.out.next hbl)
         have HBV10:=aAb (HBV9.out.later hbl (nR _))
         have HPS:=aAb hps
         clear hrg hps hbl hHeld HDR
         refine hK.out _ _ ⟨aAa HT10.out.x.t,aAa HT10.out.x.t,aAa HT10.out.x.t,aAa HT10.out.x.t,aAa HT10.out.x.t,aAa HT10.out.g⟩ (fun hHeld=>?_)
         clear hK K
         try simp only [Act.put,siT,scZ,scS]
         refine wpAnyH_tk 16 36 ?_
         refine wpAnyH_tk 17 53 ?_
         refine wpAnyH_tk 18 54 ?_
         refine wpAnyH_tk 19 9 ?_
         refine wpAnyH_tk 20 10 ?_
         refine wpAnyH_done (by kernel_rfl) ?_ _
         refine NoPanic.normal ?_
         clear hHeld
         have HPZ:=aAb (hps0 HPS.out)
         go_wp2
         go_meet
         exact ⟨rfl,rfl,_,_,rfl,HT10.out,HPZ.out⟩
        case zb8 =>
         intro o ho K hK
         simp only [List.getElem?_toArray,List.getElem?_cons_succ,List.getElem?_cons_zero,oI] at ho
         subst ho
         go_simp
         have hbx:=aAf w6 (.cells #[.slice ka kn kc,.slice (some ⟨fb,0,none⟩) 1 1] 82)
         have HT7:=aAb (HT6.out.next hbx)
         have HBV7:=aAb (HBV6.out.later hbx (nR _))
         have HF7:=aAb (HF6.out.later hbx (nR _))
         have HP17:=aAb ((hbx.cell (aAk HP16.out)).trans HP16.out)
         have HP27:=aAb (aB1 w6 (.slice ka kn kc) (.slice (some ⟨fb,0,none⟩) 1 1) 82)
         clear hbx hHeld
         refine hK.out _ _ ⟨aAa HT7.out.x.t,aAa HT7.out.x.t,aAa HT7.out.x.t,aAa HT7.out.x.t,aAa HT7.out.x.t,aAa HT7.out.g⟩ (fun hHeld=>?_)
         generalize w6.alloc (.cells #[.slice ka kn kc,.slice (some ⟨fb,0,none⟩) 1 1] 82)=w7 at *
         generalize w6.heap.size=p2 at *
         clear hK K
         try simp only [Act.put,siT,scZ,scS]
         refine wpAnyH_cm 7 ?_;intro K hK
         go_simp
         refine (aD2 (ys:=(r.getD cn vz).bytes) HI4.out HC2.out HBV7.out.hlen (by have:=HKN.out;omega) HKN.out.2 HBV7.out.hbyte (fun ww hb=>join_one _ ((hb.cell (aAk HP17.out)).trans HP17.out) (HBV7.out.later hb (nR _)) HKN.out.2)).mono ?_
         rintro e w8 ⟨k1a,k1c,rfl,hbs,hub,hbl⟩
         rw [aC7 (by have:=HCV.out.2.2;omega)] at hbs
         have HT8:=aAb (HT7.out.next hbl)
         have HBV8:=aAb (HBV7.out.later hbl (nR _))
         have HP28:=aAb (And.intro ((hbl.cell (aAk HP27.out.1)).trans HP27.out.1) ((hbl.cell (aAk HP27.out.2)).trans HP27.out.2))
         have HF8:=aAb (HF7.out.later hbl (nR _))
         have HK18:=aAb (And.intro hbs hub)
         clear hbs hub hbl hHeld
         refine hK.out _ _ ⟨aAa HT8.out.x.t,aAa HT8.out.x.t,aAa HT8.out.x.t,aAa HT8.out.x.t,aAa HT8.out.x.t,aAa HT8.out.g⟩ (fun hHeld=>?_)
         clear hK K
         try simp only [Act.put,siT,scZ,scS]
         refine wpAnyH_cm 14 ?_;intro K hK
         go_simp
         refine (aD2 (m:=kn+1) (ys:=(r.getD cn vz).bytes++[255]) HI4.out HC2.out (by rw [lA,HKE.out];rfl) (by have:=HKN.out;omega) (by omega) (fun n hn=>by rcases List.mem_append.1 hn with q | q;exact HBV8.out.hbyte n q;exact HF8.out.hbyte n q) (fun ww hb=>aCx ((hb.cell (aAk HP28.out.1)).trans HP28.out.1) ((hb.cell (aAk HP28.out.2)).trans HP28.out.2) (HBV8.out.later hb (nR _)) (HF8.out.later hb (nR _)) (nR _) (by have:=HKN.out;omega) (by omega))).mono ?_
         rintro e w9 ⟨k2a,k2c,rfl,hbs,hub,hbl⟩
         rw [aC7 (by rw [lA];have:=HCV.out.2.2;show _+1≤_;omega)] at hbs
         have HT9:=aAb (HT8.out.next hbl)
         have HBV9:=aAb (HBV8.out.later hbl (nR _))
         have HK19:=aAb (And.intro (HK18.out.1.later hbl (nR _)) (HK18.out.2.later hbl))
         have HK29:=aAb (And.intro hbs hub)
         clear hbs hub hbl hHeld
         refine hK.out _ _ ⟨aAa HT9.out.x.t,aAa HT9.out.x.t,aAa HT9.out.x.t,aAa HT9.out.x.t,aAa HT9.out.x.t,aAa HT9.out.g⟩ (fun hHeld=>?_)
         clear hK K
         try simp only [Act.put,siT,scZ,scS]
         refine wpAnyH_cm 15 ?_;intro K hK
         go_simp
         have HDR:=aAb (HD.out.later HT9.out.x.be)
         have hrg:=aBg (sp:=1) (most:=1) HDR.out.now HDR.out.dd HLN.out (by omega) (aBx HK19.out.1 HK19.out.2) (aBx HK29.out.1 HK29.out.2) (by omega) (by omega) (by omega) (by omega)
         refine hrg.mono ?_
         rintro e w10 ⟨v9,rfl,hps,hbl⟩
         rw [show rngC cs ((1:Nat):Int)=rngC cs 1 from rfl,HLr.out] at hps
         obtain ⟨a9,c9,e9⟩:=hps.form
         rw [HNL.out] at e9
         subst e9
         have HT10:=aAb (HT9.out.next hbl)
         have HBV10:=aAb (HBV9.out.later hbl (nR _))
         have HPS:=aAb hps
         clear hrg hps hbl hHeld HDR
         refine hK.out _ _ ⟨aAa HT10.out.x.t,aAa HT10.out.x.t,aAa HT10.out.x.t,aAa HT10.out.x.t,aAa HT10.out.x.t,aAa HT10.out.g⟩ (fun hHeld=>?_)
         clear hK K
         try simp only [Act.put,siT,scZ,scS]
         refine wpAnyH_tk 16 36 ?_
         refine wpAnyH_tk 17 53 ?_
         refine wpAnyH_tk 18 54 ?_
         refine wpAnyH_tk 19 9 ?_
         refine wpAnyH_tk 20 10 ?_
         refine wpAnyH_done (by kernel_rfl) ?_ _
         refine NoPanic.normal ?_
         clear hHeld
         have HPZ:=aAb (hps0 HPS.out)
         go_wp2
         go_meet
         exact ⟨rfl,rfl,_,_,rfl,HT10.out,HPZ.out⟩
       case zb7 =>
        intro o ho K hK
        simp only [List.getElem?_toArray,List.getElem?_cons_succ,List.getElem?_cons_zero,oI] at ho
        subst ho
        go_simp
        have hbx:=aAf w5 (.cells #[.slice ka kn kc,.slice (some ⟨fb,0,none⟩) 1 1] 82)
        have HT6:=aAb (HT5.out.next hbx)
        have HBV6:=aAb (HBV5.out.later hbx (nR _))
        have HF6:=aAb (HF5.out.later hbx (nR _))
        have HP26:=aAb (aB1 w5 (.slice ka kn kc) (.slice (some ⟨fb,0,none⟩) 1 1) 82)
        clear hbx hHeld
        refine hK.out _ _ ⟨aAa HT6.out.x.t,aAa HT6.out.x.t,aAa HT6.out.x.t,aAa HT6.out.x.t,aAa HT6.out.x.t,aAa HT6.out.g⟩ (fun hHeld=>?_)
        generalize w5.alloc (.cells #[.slice ka kn kc,.slice (some ⟨fb,0,none⟩) 1 1] 82)=w6 at *
        generalize w5.heap.size=p2 at *
        clear hK K
        try simp only [Act.put,siT,scZ,scS]
        refine wpAnyH_cm 6 ?_;intro K hK
        go_simp
        have hbx:=aAf w6 (.cells #[.slice ka kn kc] 82)
        have HT7:=aAb (HT6.out.next hbx)
        have HBV7:=aAb (HBV6.out.later hbx (nR _))
        have HP27:=aAb (And.intro ((hbx.cell (aAk HP26.out.1)).trans HP26.out.1) ((hbx.cell (aAk HP26.out.2)).trans HP26.out.2))
        have HF7:=aAb (HF6.out.later hbx (nR _))
        have HP17:Hid ((w6.alloc (.cells #[.slice ka kn kc] 82)).cell? ⟨w6.heap.size,0,none⟩=some (.slice ka kn kc)):=aDy _
        clear hbx hHeld
        refine hK.out _ _ ⟨aAa HT7.out.x.t,aAa HT7.out.x.t,aAa HT7.out.x.t,aAa HT7.out.x.t,aAa HT7.out.x.t,aAa HT7.out.g⟩ (fun hHeld=>?_)
        generalize w6.alloc (.cells #[.slice ka kn kc] 82)=w7 at *
        generalize w6.heap.size=p1 at *
        clear hK K
        try simp only [Act.put,siT,scZ,scS]
        refine wpAnyH_cm 7 ?_;intro K hK
        go_simp
        refine (aD2 (ys:=(r.getD cn vz).bytes) HI4.out HC2.out HBV7.out.hlen (by have:=HKN.out;omega) HKN.out.2 HBV7.out.hbyte (fun ww hb=>join_one _ ((hb.cell (aAk HP17.out)).trans HP17.out) (HBV7.out.later hb (nR _)) HKN.out.2)).mono ?_
        rintro e w8 ⟨k1a,k1c,rfl,hbs,hub,hbl⟩
        rw [aC7 (by have:=HCV.out.2.2;omega)] at hbs
        have HT8:=aAb (HT7.out.next hbl)
        have HBV8:=aAb (HBV7.out.later hbl (nR _))
        have HP28:=aAb (And.intro ((hbl.cell (aAk HP27.out.1)).trans HP27.out.1) ((hbl.cell (aAk HP27.out.2)).trans HP27.out.2))
        have HF8:=aAb (HF7.out.later hbl (nR _))
        have HK18:=aAb (And.intro hbs hub)
        clear hbs hub hbl hHeld
        refine hK.out _ _ ⟨aAa HT8.out.x.t,aAa HT8.out.x.t,aAa HT8.out.x.t,aAa HT8.out.x.t,aAa HT8.out.x.t,aAa HT8.out.g⟩ (fun hHeld=>?_)
        clear hK K
        try simp only [Act.put,siT,scZ,scS]
        refine wpAnyH_cm 14 ?_;intro K hK
        go_simp
        refine (aD2 (m:=kn+1) (ys:=(r.getD cn vz).bytes++[255]) HI4.out HC2.out (by rw [lA,HKE.out];rfl) (by have:=HKN.out;omega) (by omega) (fun n hn=>by rcases List.mem_append.1 hn with q | q;exact HBV8.out.hbyte n q;exact HF8.out.hbyte n q) (fun ww hb=>aCx ((hb.cell (aAk HP28.out.1)).trans HP28.out.1) ((hb.cell (aAk HP28.out.2)).trans HP28.out.2) (HBV8.out.later hb (nR _)) (HF8.out.later hb (nR _)) (nR _) (by have:=HKN.out;omega) (by omega))).mono ?_
        rintro e w9 ⟨k2a,k2c,rfl,hbs,hub,hbl⟩
        rw [aC7 (by rw [lA];have:=HCV.out.2.2;show _+1≤_;omega)] at hbs
        have HT9:=aAb (HT8.out.next hbl)
        have HBV9:=aAb (HBV8.out.later hbl (nR _))
        have HK19:=aAb (And.intro (HK18.out.1.later hbl (nR _)) (HK18.out.2.later hbl))
        have HK29:=aAb (And.intro hbs hub)
        clear hbs hub hbl hHeld
        refine hK.out _ _ ⟨aAa HT9.out.x.t,aAa HT9.out.x.t,aAa HT9.out.x.t,aAa HT9.out.x.t,aAa HT9.out.x.t,aAa HT9.out.g⟩ (fun hHeld=>?_)
        clear hK K
        try simp only [Act.put,siT,scZ,scS]
        refine wpAnyH_cm 15 ?_;intro K hK
        go_simp
        have HDR:=aAb (HD.out.later HT9.out.x.be)
        have hrg:=aBg (sp:=1) (most:=1) HDR.out.now HDR.out.dd HLN.out (by omega) (aBx HK19.out.1 HK19.out.2) (aBx HK29.out.1 HK29.out.2) (by omega) (by omega) (by omega) (by omega)
        refine hrg.mono ?_
        rintro e w10 ⟨v9,rfl,hps,hbl⟩
        rw [show rngC cs ((1:Nat):Int)=rngC cs 1 from rfl,HLr.out] at hps
        obtain ⟨a9,c9,e9⟩:=hps.form
        rw [HNL.out] at e9
        subst e9
        have HT10:=aAb (HT9.out.next hbl)
        have HBV10:=aAb (HBV9.out.later hbl (nR _))
        have HPS:=aAb hps
        clear hrg hps hbl hHeld HDR
        refine hK.out _ _ ⟨aAa HT10.out.x.t,aAa HT10.out.x.t,aAa HT10.out.x.t,aAa HT10.out.x.t,aAa HT10.out.x.t,aAa HT10.out.g⟩ (fun hHeld=>?_)
        clear hK K
        try simp only [Act.put,siT,scZ,scS]
        refine wpAnyH_tk 16 36 ?_
        refine wpAnyH_tk 17 53 ?_
        refine wpAnyH_tk 18 54 ?_
        refine wpAnyH_tk 19 9 ?_
        refine wpAnyH_tk 20 10 ?_
        refine wpAnyH_done (by kernel_rfl) ?_ _
        refine NoPanic.normal ?_
        clear hHeld
        have HPZ:=aAb (hps0 HPS.out)
        go_wp2
        go_meet
        exact ⟨rfl,rfl,_,_,rfl,HT10.out,HPZ.out⟩
     case rest =>
      obtain ⟨rfl,rfl,a9,c9,rfl,ht9,hps9⟩:=hcut
      have HT9:=aAb ht9
      have HPS:=aAb hps9
      clear ht9 hps9 HT3 HT4 HBV4
      by_cases hex:∃ o∈t.rows,col o (cn:Int)=r.getD cn vz
      ·obtain ⟨o,hom,hoc⟩:=hex
       have hrn:=HI.out.stand_one HTI.out HXM.out rfl rfl HCV.out.1 HCV.out.2.1 HZ.out hom hoc
       rw [HLr.out] at hrn
       have hnl:=HNL.out
       rw [hrn] at hnl
       have hnl:nl=1:=hnl.symm
       subst hnl
       have hps:=HPS.out
       rw [hrn] at hps
       obtain ⟨g9,k9,x9,e9,hev,hcell⟩:=hps.at f3_len (j:=0) rfl
       obtain ⟨xc9,xk9,xv9⟩:=x9
       obtain ⟨ex9,⟨y9,z9,e3,hbk9⟩,_⟩:=hev
       dsimp only at ex9 e3
       subst ex9
       simp only [Value.slice.injEq] at e9
       obtain ⟨rfl,zz9,rfl⟩:=e9
       clear zz9
       have hg9:wc.cell? ⟨g9,1,none⟩=some xk9:=hcell 1 (by omega)
       have hc90:wc.cell? ⟨g9,0,none⟩=some (.int .i64 1):=hcell 0 (by omega)
       subst e3
       have hcap9:1≤c9:=by
        obtain ⟨kv,_,⟨_,ho⟩,_⟩:=hps
        rcases ho with ⟨e,h0⟩ | ⟨g',cap',cur',e,_,_,h7,_⟩
        ·cases h0
        ·simp only [Value.slice.injEq] at e
         have:([⟨1,xk i (cn:Int) o,rowB o,false⟩]:List Ch).length=1:=rfl
         omega
       have hko:=HI.out.row t (at_mem HTI.out) o hom
       have hfo:=hko.val (hko.fmem HOK.out)
       have hxe:=xk_eq (i:=i) (c:=(cn:Int)) (r:=r) (o:=o) (hoc.trans HCC.out.symm) ⟨hfo.1,hfo.2.1⟩ ⟨HFV.out.1,HFV.out.2.1⟩
       have HOM:=aAb hom
       have HOC:=aAb hoc
       have HBK9:=aAb hbk9
       have HT8:Hid (TRG L M G (.pointer (some ⟨db,0,none⟩)) i t.s.nm ca t.s.cs.length cc (some ⟨xb,xo,none⟩) xl xc pv (some ⟨vb,vo,none⟩) vn vc cn true w wc.drew):=HT9.out.next (Below.refl _ _).drew
       have HG9:Hid (wc.drew.cell? ⟨g9,1,none⟩=some (.slice y9 (xk i (cn:Int) o).length z9)):=hg9
       have HBS8:Hid (BS wc.drew y9 (xk i (cn:Int) o).length z9 (xk i (cn:Int) o)):=hbk9.1.later (Below.refl _ _).drew (nR _)
       have HIK:=aAb (aG8 (dv:=.pointer (some ⟨db,0,none⟩)) (nm:=t.s.nm) (ca:=ca) (cl:=t.s.cs.length) (cc:=cc) (xa:=some ⟨xb,xo,none⟩) (xl:=xl) (xc:=xc) (pv:=pv) HI4.out HC2.out (HV.out.later HT8.out.x.be) HCG.out HF0.out HCP.out (by have:=HCV.out.2.2;omega) (by have:=HFV.out.2.2;omega))
       obtain ⟨kl,hkl⟩:∃ kl,min ((r.getD cn vz).bytes.length+(fst r).bytes.length+2) 60=kl:=⟨_,rfl⟩
       rw [xk_take HCV.out.2.2 HFV.out.2.2,hkl] at HIK
       obtain ⟨ol,hol⟩:∃ ol,(xk i (cn:Int) o).length=ol:=⟨_,rfl⟩
       rw [hol] at HG9 HBS8
       have HHN:=aAb hrn
       clear hkl hol hrn hps hcell hg9 hc90 hbk9 hom hoc hfo hko HPS HNL
       by_cases hff:fst o=fst r
       ·have HE:Hid (decide (xk i (cn:Int) o=xk i (cn:Int) r)=true):=decide_eq_true (hxe.2 hff)
        have HCX:Hid (clashX t.rows r ((cn:Int),true)=false):=by
         show (true && (decide ((col r (cn:Int)).1≠0) && _))=false
         rw [Bool.true_and,Bool.and_eq_false_iff]
         refine Or.inr ?_
         rw [List.any_eq_false]
         intro o' ho' hh
         simp only [Bool.and_eq_true,decide_eq_true_eq] at hh
         have e:=HI.out.uni t (at_mem HTI.out) ((cn:Int),true) HXM.out rfl o' ho' o HOM.out (by rw [hh.1,HCC.out];exact HZ.out) (by rw [hh.1,HCC.out];exact HOC.out.symm)
         exact hh.2 (by rw [e];exact hff)
        clear hff hxe
        have HG8:=HG9
        go_upto_region 9 with fail
        have HX9:Hid ((fun wx:World=>wx.cell? ⟨L,0,none⟩=some (.pointer (some ⟨db,0,none⟩))∧wx.cell? ⟨L,1,none⟩=some (.int .u8 (i:Int))∧wx.cell? ⟨L,2,none⟩=some (.string t.s.nm)∧wx.cell? ⟨L,3,none⟩=some (.slice ca t.s.cs.length cc)∧wx.cell? ⟨L,4,none⟩=some (.slice (some ⟨xb,xo,none⟩) xl xc)∧wx.cell? ⟨G,0,none⟩=some (.int .i64 (cn:Int))∧wx.cell? ⟨M,0,none⟩=some pv∧wx.cell? ⟨M,1,none⟩=some (.slice (some ⟨vb,vo,none⟩) vn vc)∧wx.cell? ⟨g9,1,none⟩=some (.slice y9 ol z9)) wc.drew):=⟨aAa HT8.out.x.t,aAa HT8.out.x.t,aAa HT8.out.x.t,aAa HT8.out.x.t,aAa HT8.out.x.t,aAa HT8.out.g,aAa HT8.out.x.r,aAa HT8.out.x.r,HG8.out⟩
        refine wp_region_noPanic ?_
        refine wp_region_held_drew (S:=fun wx=>wx.cell? ⟨L,0,none⟩=some (.pointer (some ⟨db,0,none⟩))∧wx.cell? ⟨L,1,none⟩=some (.int .u8 (i:Int))∧wx.cell? ⟨L,2,none⟩=some (.string t.s.nm)∧wx.cell? ⟨L,3,none⟩=some (.slice ca t.s.cs.length cc)∧wx.cell? ⟨L,4,none⟩=some (.slice (some ⟨xb,xo,none⟩) xl xc)∧wx.cell? ⟨G,0,none⟩=some (.int .i64 (cn:Int))∧wx.cell? ⟨M,0,none⟩=some pv∧wx.cell? ⟨M,1,none⟩=some (.slice (some ⟨vb,vo,none⟩) vn vc)∧wx.cell? ⟨g9,1,none⟩=some (.slice y9 ol z9)) (by kernel_rfl) HX9.out (fun hHeld=>?_)
        generalize wc.drew=w8 at *
        refine wpAnyH_tk 0 60 ?_
        refine wpAnyH_tk 1 61 ?_
        refine wpAnyH_tk 2 62 ?_
        refine wpAnyH_tk 3 63 ?_
        refine wpAnyH_tk 4 64 ?_
        refine wpAnyH_tk 5 65 ?_
        refine wpAnyH_tk 6 66 ?_
        refine wpAnyH_tk 7 67 ?_
        refine wpAnyH_tk 8 68 ?_
        refine wpAnyH_tk 9 69 ?_
        refine wpAnyH_tk 10 70 ?_
        refine wpAnyH_tk 11 71 ?_
        refine wpAnyH_cm 12 ?_;intro K hK
        go_simp
        refine HIK.out.mono ?_
        rintro e w7 ⟨a7,c7,rfl,hbs,hub,hbl⟩
        have HT7:=aAb (HT8.out.next hbl)
        have HG7:=aAb ((hbl.cell (aAk HG8.out)).trans HG8.out)
        have HBS7:=aAb (HBS8.out.later hbl (nR _))
        have HK7:=aAb hbs
        clear hbs hub hbl hHeld HIK
        refine hK.out _ _ ⟨aAa HT7.out.x.t,aAa HT7.out.x.t,aAa HT7.out.x.t,aAa HT7.out.x.t,aAa HT7.out.x.t,aAa HT7.out.g,aAa HT7.out.x.r,aAa HT7.out.x.r,HG7.out⟩ (fun hHeld=>?_)
        clear hK K
        try simp only [Act.put,siT,scZ,scS]
        refine wpAnyH_cm 13 ?_;intro K hK
        go_simp
        refine (aCp y9 a7 ol z9 kl c7 _ _ w7 HBS7.out HK7.out).mono ?_
        rintro e w6 ⟨rfl,hw⟩
        have hw:=hw.symm
        subst hw
        have HT6:=HT7
        rw [show decide (xk i (cn:Int) o=xk i (cn:Int) r)=true from HE.out]
        clear hHeld
        refine hK.out _ _ ⟨aAa HT7.out.x.t,aAa HT7.out.x.t,aAa HT7.out.x.t,aAa HT7.out.x.t,aAa HT7.out.x.t,aAa HT7.out.g,aAa HT7.out.x.r,aAa HT7.out.x.r,HG7.out⟩ (fun hHeld=>?_)
        clear hK K
        try simp only [Act.put,siT,scZ,scS]
        refine wpAnyH_tk 14 74 ?_
        refine wpAnyH_tk 15 75 ?_
        refine wpAnyH_tk 16 59 ?_
        refine wpAnyH_done (by kernel_rfl) ?_ _
        refine NoPanic.normal ?_
        clear hHeld
        go_wp2
        go_roundg (gk-1)
        case measure=>omega
        case rel=>exact ⟨j+1,by omega,rfl,by rw [HTK.out];exact HCX.out,HT6.out.x⟩
       ·have HE:Hid (decide (xk i (cn:Int) o=xk i (cn:Int) r)=false):=decide_eq_false (fun q=>hff (hxe.1 q))
        have HCX:Hid (clash t.s t.rows r=true):=by
         show t.s.xs.any (clashX t.rows r)=true
         rw [List.any_eq_true]
         refine ⟨_,HXM.out,?_⟩
         show (true && (decide ((col r (cn:Int)).1≠0) && _))=true
         rw [Bool.true_and,HCC.out,decide_eq_true HZ.out,Bool.true_and,List.any_eq_true]
         exact ⟨o,HOM.out,by rw [decide_eq_true HOC.out,Bool.true_and];exact decide_eq_true hff⟩
        clear hff hxe
        have HG8:=HG9
        go_upto_region 9 with fail
        have HX9:Hid ((fun wx:World=>wx.cell? ⟨L,0,none⟩=some (.pointer (some ⟨db,0,none⟩))∧wx.cell? ⟨L,1,none⟩=some (.int .u8 (i:Int))∧wx.cell? ⟨L,2,none⟩=some (.string t.s.nm)∧wx.cell? ⟨L,3,none⟩=some (.slice ca t.s.cs.length cc)∧wx.cell? ⟨L,4,none⟩=some (.slice (some ⟨xb,xo,none⟩) xl xc)∧wx.cell? ⟨G,0,none⟩=some (.int .i64 (cn:Int))∧wx.cell? ⟨M,0,none⟩=some pv∧wx.cell? ⟨M,1,none⟩=some (.slice (some ⟨vb,vo,none⟩) vn vc)∧wx.cell? ⟨g9,1,none⟩=some (.slice y9 ol z9)) wc.drew):=⟨aAa HT8.out.x.t,aAa HT8.out.x.t,aAa HT8.out.x.t,aAa HT8.out.x.t,aAa HT8.out.x.t,aAa HT8.out.g,aAa HT8.out.x.r,aAa HT8.out.x.r,HG8.out⟩
        refine wp_region_noPanic ?_
        refine wp_region_held_drew (S:=fun wx=>wx.cell? ⟨L,0,none⟩=some (.pointer (some ⟨db,0,none⟩))∧wx.cell? ⟨L,1,none⟩=some (.int .u8 (i:Int))∧wx.cell? ⟨L,2,none⟩=some (.string t.s.nm)∧wx.cell? ⟨L,3,none⟩=some (.slice ca t.s.cs.length cc)∧wx.cell? ⟨L,4,none⟩=some (.slice (some ⟨xb,xo,none⟩) xl xc)∧wx.cell? ⟨G,0,none⟩=some (.int .i64 (cn:Int))∧wx.cell? ⟨M,0,none⟩=some pv∧wx.cell? ⟨M,1,none⟩=some (.slice (some ⟨vb,vo,none⟩) vn vc)∧wx.cell? ⟨g9,1,none⟩=some (.slice y9 ol z9)) (by kernel_rfl) HX9.out (fun hHeld=>?_)
        generalize wc.drew=w8 at *
        refine wpAnyH_tk 0 60 ?_
        refine wpAnyH_tk 1 61 ?_
        refine wpAnyH_tk 2 62 ?_
        refine wpAnyH_tk 3 63 ?_
        refine wpAnyH_tk 4 64 ?_
        refine wpAnyH_tk 5 65 ?_
        refine wpAnyH_tk 6 66 ?_
        refine wpAnyH_tk 7 67 ?_
        refine wpAnyH_tk 8 68 ?_
        refine wpAnyH_tk 9 69 ?_
        refine wpAnyH_tk 10 70 ?_
        refine wpAnyH_tk 11 71 ?_
        refine wpAnyH_cm 12 ?_;intro K hK
        go_simp
        refine HIK.out.mono ?_
        rintro e w7 ⟨a7,c7,rfl,hbs,hub,hbl⟩
        have HT7:=aAb (HT8.out.next hbl)
        have HG7:=aAb ((hbl.cell (aAk HG8.out)).trans HG8.out)
        have HBS7:=aAb (HBS8.out.later hbl (nR _))
        have HK7:=aAb hbs
        clear hbs hub hbl hHeld HIK
        refine hK.out _ _ ⟨aAa HT7.out.x.t,aAa HT7.out.x.t,aAa HT7.out.x.t,aAa HT7.out.x.t,aAa HT7.out.x.t,aAa HT7.out.g,aAa HT7.out.x.r,aAa HT7.out.x.r,HG7.out⟩ (fun hHeld=>?_)
        clear hK K
        try simp only [Act.put,siT,scZ,scS]
        refine wpAnyH_cm 13 ?_;intro K hK
        go_simp
        refine (aCp y9 a7 ol z9 kl c7 _ _ w7 HBS7.out HK7.out).mono ?_
        rintro e w6 ⟨rfl,hw⟩
        have hw:=hw.symm
        subst hw
        have HT6:=HT7
        rw [show decide (xk i (cn:Int) o=xk i (cn:Int) r)=false from HE.out]
        clear hHeld
        refine hK.out _ _ ⟨aAa HT7.out.x.t,aAa HT7.out.x.t,aAa HT7.out.x.t,aAa HT7.out.x.t,aAa HT7.out.x.t,aAa HT7.out.g,aAa HT7.out.x.r,aAa HT7.out.x.r,HG7.out⟩ (fun hHeld=>?_)
        clear hK K
        try simp only [Act.put,siT,scZ,scS]
        refine wpAnyH_tk 14 74 ?_
        refine wpAnyH_tk 15 75 ?_
        refine wpAnyH_tk 16 59 ?_
        refine wpAnyH_done (by kernel_rfl) ?_ _
        refine NoPanic.normal ?_
        clear hHeld
        go_wp2
        go_ret
        exact ⟨by rw [←HRV.out,if_pos HCX.out];rfl,by rw [←HLL.out];exact HT6.out.x.be⟩
      ·have hne:∀ o∈t.rows,col o (cn:Int)≠r.getD cn vz:=fun o ho e=>hex ⟨o,ho,e⟩
       have hrn:=HI.out.stand_none HTI.out HXM.out rfl HCV.out.1 HCV.out.2.1 hne
       rw [HLr.out] at hrn
       have hnl:=HNL.out
       rw [hrn] at hnl
       have hnl:nl=0:=hnl.symm
       subst hnl
       have HCX:Hid (clashX t.rows r ((cn:Int),true)=false):=by
        show (true && (decide ((col r (cn:Int)).1≠0) && _))=false
        rw [Bool.true_and,Bool.and_eq_false_iff]
        refine Or.inr ?_
        rw [List.any_eq_false]
        intro o' ho' hh
        simp only [Bool.and_eq_true,decide_eq_true_eq] at hh
        exact hne o' ho' (by rw [hh.1,HCC.out])
       have HT8:Hid (TRG L M G (.pointer (some ⟨db,0,none⟩)) i t.s.nm ca t.s.cs.length cc (some ⟨xb,xo,none⟩) xl xc pv (some ⟨vb,vo,none⟩) vn vc cn true w wc.drew):=HT9.out.next (Below.refl _ _).drew
       clear hrn hne hex HPS HNL
       go_upto_region 9 with fail
       have HX9:Hid ((fun wx:World=>True) wc.drew):=trivial
       refine wp_region_noPanic ?_
       refine wp_region_held_drew (S:=fun wx=>True) (by kernel_rfl) HX9.out (fun hHeld=>?_)
       generalize wc.drew=w8 at *
       refine wpAnyH_tk 0 60 ?_
       refine wpAnyH_tk 1 61 ?_
       refine wpAnyH_tk 2 62 ?_
       refine wpAnyH_tk 3 63 ?_
       refine aAd (i:=4) (d:=64) (v:=undef) (by kernel_rfl) (by kernel_rfl) (by kernel_rfl) (by kernel_rfl) (fun _ _ _ h=>h) ?hynb4 (by assumption) ?restnb4
       case hynb4 =>
        intro oi ho
        simp only [List.getElem?_toArray,List.getElem?_cons_succ,List.getElem?_cons_zero,oI] at ho
        subst ho
        exact Or.inr ⟨by rfl,rfl⟩
       try simp only [Act.put,siT,scZ,scS]
       refine aAd (i:=5) (d:=65) (v:=undef) (by kernel_rfl) (by kernel_rfl) (by kernel_rfl) (by kernel_rfl) (fun _ _ _ h=>h) ?hynb5 (by assumption) ?restnb5
       case hynb5 =>
        intro oi ho
        simp only [List.getElem?_toArray,List.getElem?_cons_succ,List.getElem?_cons_zero,oI] at ho
        subst ho
        exact Or.inr ⟨by rfl,rfl⟩
       try simp only [Act.put,siT,scZ,scS]
       refine aAd (i:=6) (d:=66) (v:=undef) (by kernel_rfl) (by kernel_rfl) (by kernel_rfl) (by kernel_rfl) (fun _ _ _ h=>h) ?hynb6 (by assumption) ?restnb6
       case hynb6 =>
        intro oi ho
        simp only [List.getElem?_toArray,List.getElem?_cons_succ,List.getElem?_cons_zero,oI] at ho
        subst ho
        exact Or.inr ⟨by rfl,rfl⟩
       try simp only [Act.put,siT,scZ,scS]
       refine aAd (i:=7) (d:=67) (v:=undef) (by kernel_rfl) (by kernel_rfl) (by kernel_rfl) (by kernel_rfl) (fun _ _ _ h=>h) ?hynb7 (by assumption) ?restnb7
       case hynb7 =>
        intro oi ho
        simp only [List.getElem?_toArray,List.getElem?_cons_succ,List.getElem?_cons_zero,oI] at ho
        subst ho
        exact Or.inr ⟨by rfl,rfl⟩
       try simp only [Act.put,siT,scZ,scS]
       refine aAd (i:=8) (d:=68) (v:=undef) (by kernel_rfl) (by kernel_rfl) (by kernel_rfl) (by kernel_rfl) (fun _ _ _ h=>h) ?hynb8 (by assumption) ?restnb8
       case hynb8 =>
        intro oi ho
        simp only [List.getElem?_toArray,List.getElem?_cons_succ,List.getElem?_cons_zero,oI] at ho
        subst ho
        exact Or.inr ⟨by rfl,rfl⟩
       try simp only [Act.put,siT,scZ,scS]
       refine aAd (i:=9) (d:=69) (v:=undef) (by kernel_rfl) (by kernel_rfl) (by kernel_rfl) (by kernel_rfl) (fun _ _ _ h=>h) ?hynb9 (by assumption) ?restnb9
       case hynb9 =>
        intro oi ho
        simp only [List.getElem?_toArray,List.getElem?_cons_succ,List.getElem?_cons_zero,oI] at ho
        subst ho
        exact Or.inr ⟨by rfl,rfl⟩
       try simp only [Act.put,siT,scZ,scS]
       refine aAd (i:=10) (d:=70) (v:=undef) (by kernel_rfl) (by kernel_rfl) (by kernel_rfl) (by kernel_rfl) (fun _ _ _ h=>h) ?hynb10 (by assumption) ?restnb10
       case hynb10 =>
        intro oi ho
        simp only [List.getElem?_toArray,List.getElem?_cons_succ,List.getElem?_cons_zero,oI] at ho
        subst ho
        exact Or.inr ⟨by rfl,rfl⟩
       try simp only [Act.put,siT,scZ,scS]
       refine aAd (i:=11) (d:=71) (v:=undef) (by kernel_rfl) (by kernel_rfl) (by kernel_rfl) (by kernel_rfl) (fun _ _ _ h=>h) ?hynb11 (by assumption) ?restnb11
       case hynb11 =>
        intro oi ho
        simp only [List.getElem?_toArray,List.getElem?_cons_succ,List.getElem?_cons_zero,oI] at ho
        subst ho
        exact Or.inr ⟨by rfl,rfl⟩
       try simp only [Act.put,siT,scZ,scS]
       refine aAd (i:=12) (d:=72) (v:=undef) (by kernel_rfl) (by kernel_rfl) (by kernel_rfl) (by kernel_rfl) (fun _ _ _ h=>h) ?hynb12 (by assumption) ?restnb12
       case hynb12 =>
        intro oi ho
        simp only [List.getElem?_toArray,List.getElem?_cons_succ,List.getElem?_cons_zero,oI] at ho
        subst ho
        exact Or.inr ⟨by rfl,rfl⟩
       try simp only [Act.put,siT,scZ,scS]
       refine aAd (i:=13) (d:=73) (v:=undef) (by kernel_rfl) (by kernel_rfl) (by kernel_rfl) (by kernel_rfl) (fun _ _ _ h=>h) ?hynb13 (by assumption) ?restnb13
       case hynb13 =>
        intro oi ho
        simp only [List.getElem?_toArray,List.getElem?_cons_succ,List.getElem?_cons_zero,oI] at ho
        subst ho
        exact Or.inr ⟨by rfl,rfl⟩
       try simp only [Act.put,siT,scZ,scS]
       refine aAd (i:=14) (d:=74) (v:=undef) (by kernel_rfl) (by kernel_rfl) (by kernel_rfl) (by kernel_rfl) (fun _ _ _ h=>h) ?hynb14 (by assumption) ?restnb14
       case hynb14 =>
        intro oi ho
        simp only [List.getElem?_toArray,List.getElem?_cons_succ,List.getElem?_cons_zero,oI] at ho
        subst ho
        exact Or.inr ⟨by rfl,rfl⟩
       try simp only [Act.put,siT,scZ,scS]
       refine wpAnyH_tk 15 75 ?_
       refine wpAnyH_tk 16 59 ?_
       refine wpAnyH_done (by kernel_rfl) ?_ _
       refine NoPanic.normal ?_
       clear hHeld
       go_wp2
       go_roundg (gk-1)
       case measure=>omega
       case rel=>exact ⟨j+1,by omega,rfl,by rw [HTK.out];exact HCX.out,HT8.out.x⟩
  ·have ej:j=xl:=by omega
   subst ej
   have xj:¬ (j:Int)<(j:Int):=by omega
   have HCX:Hid (clash t.s t.rows r=false):=by
    show t.s.xs.any (clashX t.rows r)=false
    have h9:=HNO.out
    rw [←HXL.out,List.take_length] at h9
    exact h9
   go_wp2
   go_ret
   exact ⟨by rw [←HRV.out,HCX.out];rfl,by rw [←HLL.out];exact HTR.out.be⟩
def addE (t:Tbl) (r:List Val):Int:=if (rowAt t.rows (fst r)).isSome then 63 else if 64≤t.rows.length then 2 else if clash t.s t.rows r=true then 64 else 0
theorem TRX.set2 {L M:Nat} {dv:Value} {num:Nat} {nm:ByteArray} {ca:Option Addr} {cl cc:Nat} {xa:Option Addr} {xl xc:Nat} {pv:Value} {va:Option Addr} {vn vc:Nat} {w0 w:World} {Q:Nat} {b0 b1:Value} (h:TRX L M dv num nm ca cl cc xa xl xc pv va vn vc w0 w) (h1:L≠Q) (h2:M≠Q) (h3:w0.heap.size≤Q):TRX L M dv num nm ca cl cc xa xl xc pv va vn vc w0 ((w.setCell ⟨Q,0,none⟩ b0).setCell ⟨Q,1,none⟩ b1) :=
 ⟨(aBf h1).trans h.t,(aBf h2).trans h.r,aCv h.be h3⟩
theorem mayAdd_ok [Gd] {B p q g ls db i:Nat} {v:Value} {cs:List Ch} {W w0 w:World} {T:List Tbl} {t:Tbl} {r:List Val} {ca xa pa va:Option Addr} {cc xc pc vc:Nat} (h:DR B p q g ls db v cs W w0 w) (I:Inv cs T) (hl:cs.length≤1000) (hti:T[i]?=some t) (hr:RowOk t.s r) (hsc:SC w ca t.s.cs.length cc xa t.s.xs.length xc t.s) (hv:RHd w pa pc va vc r) :
  Calls Tryz.prog 38 #[.agg #[.pointer (some ⟨db,0,none⟩),.int .u8 (i:Int),.string t.s.nm,.slice ca t.s.cs.length cc,.slice xa t.s.xs.length xc],.agg #[.slice pa r.length pc,.slice va r.length vc]] w fun e w'=>e=.returned (.int .i64 (addE t r))∧Below w.heap.size w w':=by
 obtain ⟨w1,hw1⟩:∃ w1,w1=(w.alloc (.cells #[.pointer (some ⟨db,0,none⟩),.int .u8 (i:Int),.string t.s.nm,.slice ca t.s.cs.length cc,.slice xa t.s.xs.length xc] 86)).alloc (.cells #[.slice pa r.length pc,.slice va r.length vc] 92):=⟨_,rfl⟩
 have ht:TRX w.heap.size (w.heap.size+1) (.pointer (some ⟨db,0,none⟩)) i t.s.nm ca t.s.cs.length cc xa t.s.xs.length xc (.slice pa r.length pc) va r.length vc w w1:=by rw [hw1];exact TRX.new w
 obtain ⟨L,hL⟩:∃ L,w.heap.size=L:=⟨_,rfl⟩
 obtain ⟨M,hM⟩:∃ M,L+1=M:=⟨_,rfl⟩
 rw [hL,hM] at ht
 have HX1:=aAb (ht.next (Below.refl _ _).drew)
 have htm:=at_mem hti
 have HOK:=aAb (I.ok t htm)
 have HD:=aAb h
 have HI:=aAb I
 have HLN:=aAb hl
 have HTI:=aAb hti
 have HR:=aAb hr
 have HV:=aAb hv
 have HSC:=aAb hsc
 have HCN:=aAb (I.cnt t htm)
 have HFV:Hid ((fst r).ok∧(fst r).err=0∧(fst r).bytes.length≤28):=hr.val (hr.fmem (I.ok t htm))
 have HFP:Hid (0<(fst r).bytes.length):=by
  obtain ⟨h9,_,_,h8⟩:=aB3 [] HFV.out.1 HFV.out.2.1
  exact List.length_pos_iff.2 h8
 have HF0:Hid (r[0]?=some (fst r)):=by
  show _=_
  have:=hr.pos (I.ok t htm)
  rw [gE this]
  unfold fst
  rw [List.getD_eq_getElem?_getD,gE this]
  rfl
 have HW1:=aAb hw1
 have HLL:=aAb hL
 obtain ⟨rv,hrv⟩:∃ rv:Int,addE t r=rv:=⟨_,rfl⟩
 have HRV:=aAb hrv
 rw [hL,hrv]
 clear h I hl hti hr hv hsc htm hw1 ht hrv
 go_enter Tryz.func38,Tryz.ntmps38
 go_upto_region 1 with fail
 rw [←HW1.out]
 try simp only [hL,hM]
 clear HW1
 go_cut [6] from 10 to 37 (fun s6 wx=>TRX L M (.pointer (some ⟨db,0,none⟩)) i t.s.nm ca t.s.cs.length cc xa t.s.xs.length xc (.slice pa r.length pc) va r.length vc w wx∧s6=.int .i64 (if (rowAt t.rows (fst r)).isSome then (0:Int) else 4))
 case first =>
  have HX0:Hid ((fun wx:World=>wx.cell? ⟨L,0,none⟩=some (.pointer (some ⟨db,0,none⟩))∧wx.cell? ⟨L,1,none⟩=some (.int .u8 (i:Int))∧wx.cell? ⟨L,2,none⟩=some (.string t.s.nm)∧wx.cell? ⟨L,3,none⟩=some (.slice ca t.s.cs.length cc)∧wx.cell? ⟨L,4,none⟩=some (.slice xa t.s.xs.length xc)∧wx.cell? ⟨M,0,none⟩=some (.slice pa r.length pc)∧wx.cell? ⟨M,1,none⟩=some (.slice va r.length vc)) w1.drew):=HX1.out.sm
  refine wp_region_noPanic ?_
  refine wp_region_held_drew (S:=fun wx=>wx.cell? ⟨L,0,none⟩=some (.pointer (some ⟨db,0,none⟩))∧wx.cell? ⟨L,1,none⟩=some (.int .u8 (i:Int))∧wx.cell? ⟨L,2,none⟩=some (.string t.s.nm)∧wx.cell? ⟨L,3,none⟩=some (.slice ca t.s.cs.length cc)∧wx.cell? ⟨L,4,none⟩=some (.slice xa t.s.xs.length xc)∧wx.cell? ⟨M,0,none⟩=some (.slice pa r.length pc)∧wx.cell? ⟨M,1,none⟩=some (.slice va r.length vc)) (by kernel_rfl) HX0.out (fun hHeld=>?_)
  generalize w1.drew=w2 at *
  have HX2:=HX1
  refine wpAnyH_tk 0 10 ?_
  refine wpAnyH_tk 1 11 ?_
  refine aAl (i:=2) (j:=7) (by kernel_rfl) (by kernel_rfl) (by kernel_rfl) ?ya1 ?yb1
  case ya1 =>
   intro o ho K hK
   simp only [List.getElem?_toArray,List.getElem?_cons_succ,List.getElem?_cons_zero,oI] at ho
   subst ho
   go_simp
   refine (aGf (HV.out.later HX2.out.be).v.hvs HF0.out).mono ?_
   rintro e w3 ⟨ka,kn,kc,rfl,hbs,hb⟩
   have HX3:=aAb (HX2.out.next hb)
   have HB3:=aAb (hbs.later hb (nR _))
   have HKN:Hid (kn≤28∧0<kn):=by have h8:(fst r).bytes.length=kn:=hbs.hlen;have:=HFV.out.2.2;have:=HFP.out;exact ⟨by omega,by omega⟩
   clear hbs hb hHeld
   refine hK.out _ _ HX3.out.sm (fun hHeld=>?_)
   clear hK K
   try simp only [Act.put,siT,scZ,scS]
   refine aAl (i:=3) (j:=7) (by kernel_rfl) (by kernel_rfl) (by kernel_rfl) ?ya2 ?yb2
   case ya2 =>
    intro o ho K hK
    simp only [List.getElem?_toArray,List.getElem?_cons_succ,List.getElem?_cons_zero,oI] at ho
    subst ho
    go_simp
    refine (aFa (HD.out.later HX3.out.be) HI.out HLN.out HTI.out HFV.out.1 HFV.out.2.1 (HSC.out.later HX3.out.be) HB3.out (by have:=HKN.out;omega) HKN.out.2).mono ?_
    rintro e w4 ⟨hg,hb⟩
    have HX4:=aAb (HX3.out.next hb)
    have hee:∃ ra:Option Addr×Nat×Nat×Option Addr×Nat×Nat,e=.returned (.tuple #[.agg #[.slice ra.1 ra.2.1 ra.2.2.1,.slice ra.2.2.2.1 ra.2.2.2.2.1 ra.2.2.2.2.2],.int .i64 (if (rowAt t.rows (fst r)).isSome then (0:Int) else 4)]):=by
     cases hra:rowAt t.rows (fst r) with
     | none=>exact ⟨(none,0,0,none,0,0),hg.1 hra⟩
     | some o =>
      obtain ⟨pa,pc,va,vc,he,_⟩:=hg.2 o hra
      exact ⟨(pa,o.length,pc,va,o.length,vc),he⟩
    obtain ⟨⟨q1,q2,q3,q4,q5,q6⟩,rfl⟩:=hee
    clear hg hb hHeld
    dsimp only
    generalize (if (rowAt t.rows (fst r)).isSome then (0:Int) else 4)=ge at *
    refine hK.out _ _ HX4.out.sm (fun hHeld=>?_)
    clear hK K
    try simp only [Act.put,siT,scZ,scS]
    refine wpAnyH_tk 4 9 ?_
    refine wpAnyH_tk 5 14 ?_
    refine wpAnyH_tk 6 15 ?_
    refine wpAnyH_cm 7 ?_;intro K hK
    go_simp
    have hbx:=aAf w4 (.cells #[.slice none 0 0,.slice none 0 0] 92)
    have HX5:=aAb (HX4.out.next hbx)
    have HQ5:Hid ((w4.alloc (.cells #[.slice none 0 0,.slice none 0 0] 92)).heap[w4.heap.size]?=some (.cells #[.slice none 0 0,.slice none 0 0] 92 (0,0))):=boxed w4 _
    skip
    have HNE:Hid (L<w4.heap.size∧M<w4.heap.size):=⟨aAe HX4.out.t,aAe HX4.out.r⟩
    clear hbx hHeld
    refine hK.out _ _ HX5.out.sm (fun hHeld=>?_)
    generalize w4.alloc (.cells #[.slice none 0 0,.slice none 0 0] 92)=w5 at *
    generalize w4.heap.size=Q at *
    clear hK K
    try simp only [Act.put,siT,scZ,scS]
    refine wpAnyH_cm 8 ?_;intro K hK
    have z0:w5.cell? ⟨Q,0,none⟩=some (.slice none 0 0):=aAa HQ5.out
    have zf0:w5.frozen? ⟨Q,0,none⟩=false:=aAg HQ5.out
    have z1:w5.cell? ⟨Q,1,none⟩=some (.slice none 0 0):=aAa HQ5.out
    have zf1:w5.frozen? ⟨Q,1,none⟩=false:=aAg HQ5.out
    go_simp
    clear z0 zf0 z1 zf1 hHeld
    have HXZ:=aAb (HX5.out.set2 (b0:=.slice q1 q2 q3) (b1:=.slice q4 q5 q6) (show L≠Q by have:=HNE.out;omega) (show M≠Q by have:=HNE.out;omega) (by rw [HLL.out];have:=HNE.out;omega))
    refine hK.out _ _ HXZ.out.sm (fun hHeld=>?_)
    clear hK K
    try simp only [Act.put,siT,scZ,scS]
    refine wpAnyH_tk 9 6 ?_
    refine wpAnyH_done (by kernel_rfl) ?_ _
    refine NoPanic.normal ?_
    clear hHeld
    go_wp2
    go_meet
    exact ⟨HXZ.out,rfl⟩
   case yb2 =>
    intro o ho K hK
    simp only [List.getElem?_toArray,List.getElem?_cons_succ,List.getElem?_cons_zero,oI] at ho
    subst ho
    go_simp
    have hbx:=aAf w3 (.cells #[.slice none 0 0,.slice none 0 0] 92)
    have HX4:=aAb (HX3.out.next hbx)
    have HQ4:Hid ((w3.alloc (.cells #[.slice none 0 0,.slice none 0 0] 92)).heap[w3.heap.size]?=some (.cells #[.slice none 0 0,.slice none 0 0] 92 (0,0))):=boxed w3 _
    have HB4:=aAb (HB3.out.later hbx (nR _))
    have HNE:Hid (L<w3.heap.size∧M<w3.heap.size):=⟨aAe HX3.out.t,aAe HX3.out.r⟩
    clear hbx hHeld
    refine hK.out _ _ HX4.out.sm (fun hHeld=>?_)
    generalize w3.alloc (.cells #[.slice none 0 0,.slice none 0 0] 92)=w4 at *
    generalize w3.heap.size=Q at *
    clear hK K
    try simp only [Act.put,siT,scZ,scS]
    refine wpAnyH_cm 3 ?_;intro K hK
    go_simp
    refine (aFa (HD.out.later HX4.out.be) HI.out HLN.out HTI.out HFV.out.1 HFV.out.2.1 (HSC.out.later HX4.out.be) HB4.out (by have:=HKN.out;omega) HKN.out.2).mono ?_
    rintro e w5 ⟨hg,hb⟩
    have HX5:=aAb (HX4.out.next hb)
    have HQ5:=aAb ((hb.block Q (aAe HQ4.out)).trans HQ4.out)
    have hee:∃ ra:Option Addr×Nat×Nat×Option Addr×Nat×Nat,e=.returned (.tuple #[.agg #[.slice ra.1 ra.2.1 ra.2.2.1,.slice ra.2.2.2.1 ra.2.2.2.2.1 ra.2.2.2.2.2],.int .i64 (if (rowAt t.rows (fst r)).isSome then (0:Int) else 4)]):=by
     cases hra:rowAt t.rows (fst r) with
     | none=>exact ⟨(none,0,0,none,0,0),hg.1 hra⟩
     | some o =>
      obtain ⟨pa,pc,va,vc,he,_⟩:=hg.2 o hra
      exact ⟨(pa,o.length,pc,va,o.length,vc),he⟩
    obtain ⟨⟨q1,q2,q3,q4,q5,q6⟩,rfl⟩:=hee
    clear hg hb hHeld
    dsimp only
    generalize (if (rowAt t.rows (fst r)).isSome then (0:Int) else 4)=ge at *
    refine hK.out _ _ HX5.out.sm (fun hHeld=>?_)
    clear hK K
    try simp only [Act.put,siT,scZ,scS]
    refine wpAnyH_tk 4 9 ?_
    refine wpAnyH_tk 5 14 ?_
    refine wpAnyH_tk 6 15 ?_
    refine wpAnyH_cm 8 ?_;intro K hK
    have z0:w5.cell? ⟨Q,0,none⟩=some (.slice none 0 0):=aAa HQ5.out
    have zf0:w5.frozen? ⟨Q,0,none⟩=false:=aAg HQ5.out
    have z1:w5.cell? ⟨Q,1,none⟩=some (.slice none 0 0):=aAa HQ5.out
    have zf1:w5.frozen? ⟨Q,1,none⟩=false:=aAg HQ5.out
    go_simp
    clear z0 zf0 z1 zf1 hHeld
    have HXZ:=aAb (HX5.out.set2 (b0:=.slice q1 q2 q3) (b1:=.slice q4 q5 q6) (show L≠Q by have:=HNE.out;omega) (show M≠Q by have:=HNE.out;omega) (by rw [HLL.out];have:=HNE.out;omega))
    refine hK.out _ _ HXZ.out.sm (fun hHeld=>?_)
    clear hK K
    try simp only [Act.put,siT,scZ,scS]
    refine wpAnyH_tk 9 6 ?_
    refine wpAnyH_done (by kernel_rfl) ?_ _
    refine NoPanic.normal ?_
    clear hHeld
    go_wp2
    go_meet
    exact ⟨HXZ.out,rfl⟩
  case yb1 =>
   intro o ho K hK
   simp only [List.getElem?_toArray,List.getElem?_cons_succ,List.getElem?_cons_zero,oI] at ho
   subst ho
   go_simp
   have hbx:=aAf w2 (.cells #[.slice none 0 0,.slice none 0 0] 92)
   have HX3:=aAb (HX2.out.next hbx)
   have HQ3:Hid ((w2.alloc (.cells #[.slice none 0 0,.slice none 0 0] 92)).heap[w2.heap.size]?=some (.cells #[.slice none 0 0,.slice none 0 0] 92 (0,0))):=boxed w2 _
   skip
   have HNE:Hid (L<w2.heap.size∧M<w2.heap.size):=⟨aAe HX2.out.t,aAe HX2.out.r⟩
   clear hbx hHeld
   refine hK.out _ _ HX3.out.sm (fun hHeld=>?_)
   generalize w2.alloc (.cells #[.slice none 0 0,.slice none 0 0] 92)=w3 at *
   generalize w2.heap.size=Q at *
   clear hK K
   try simp only [Act.put,siT,scZ,scS]
   refine wpAnyH_cm 2 ?_;intro K hK
   go_simp
   refine (aGf (HV.out.later HX3.out.be).v.hvs HF0.out).mono ?_
   rintro e w4 ⟨ka,kn,kc,rfl,hbs,hb⟩
   have HX4:=aAb (HX3.out.next hb)
   have HQ4:=aAb ((hb.block Q (aAe HQ3.out)).trans HQ3.out)
   have HB4:=aAb (hbs.later hb (nR _))
   have HKN:Hid (kn≤28∧0<kn):=by have h8:(fst r).bytes.length=kn:=hbs.hlen;have:=HFV.out.2.2;have:=HFP.out;exact ⟨by omega,by omega⟩
   clear hbs hb hHeld
   refine hK.out _ _ HX4.out.sm (fun hHeld=>?_)
   clear hK K
   try simp only [Act.put,siT,scZ,scS]
   refine wpAnyH_cm 3 ?_;intro K hK
   go_simp
   refine (aFa (HD.out.later HX4.out.be) HI.out HLN.out HTI.out HFV.out.1 HFV.out.2.1 (HSC.out.later HX4.out.be) HB4.out (by have:=HKN.out;omega) HKN.out.2).mono ?_
   rintro e w5 ⟨hg,hb⟩
   have HX5:=aAb (HX4.out.next hb)
   have HQ5:=aAb ((hb.block Q (aAe HQ4.out)).trans HQ4.out)
   have hee:∃ ra:Option Addr×Nat×Nat×Option Addr×Nat×Nat,e=.returned (.tuple #[.agg #[.slice ra.1 ra.2.1 ra.2.2.1,.slice ra.2.2.2.1 ra.2.2.2.2.1 ra.2.2.2.2.2],.int .i64 (if (rowAt t.rows (fst r)).isSome then (0:Int) else 4)]):=by
    cases hra:rowAt t.rows (fst r) with
    | none=>exact ⟨(none,0,0,none,0,0),hg.1 hra⟩
    | some o =>
     obtain ⟨pa,pc,va,vc,he,_⟩:=hg.2 o hra
     exact ⟨(pa,o.length,pc,va,o.length,vc),he⟩
   obtain ⟨⟨q1,q2,q3,q4,q5,q6⟩,rfl⟩:=hee
   clear hg hb hHeld
   dsimp only
   generalize (if (rowAt t.rows (fst r)).isSome then (0:Int) else 4)=ge at *
   refine hK.out _ _ HX5.out.sm (fun hHeld=>?_)
   clear hK K
   try simp only [Act.put,siT,scZ,scS]
   refine wpAnyH_tk 4 9 ?_
   refine wpAnyH_tk 5 14 ?_
   refine wpAnyH_tk 6 15 ?_
   refine wpAnyH_cm 8 ?_;intro K hK
   have z0:w5.cell? ⟨Q,0,none⟩=some (.slice none 0 0):=aAa HQ5.out
   have zf0:w5.frozen? ⟨Q,0,none⟩=false:=aAg HQ5.out
   have z1:w5.cell? ⟨Q,1,none⟩=some (.slice none 0 0):=aAa HQ5.out
   have zf1:w5.frozen? ⟨Q,1,none⟩=false:=aAg HQ5.out
   go_simp
   clear z0 zf0 z1 zf1 hHeld
   have HXZ:=aAb (HX5.out.set2 (b0:=.slice q1 q2 q3) (b1:=.slice q4 q5 q6) (show L≠Q by have:=HNE.out;omega) (show M≠Q by have:=HNE.out;omega) (by rw [HLL.out];have:=HNE.out;omega))
   refine hK.out _ _ HXZ.out.sm (fun hHeld=>?_)
   clear hK K
   try simp only [Act.put,siT,scZ,scS]
   refine wpAnyH_tk 9 6 ?_
   refine wpAnyH_done (by kernel_rfl) ?_ _
   refine NoPanic.normal ?_
   clear hHeld
   go_wp2
   go_meet
   exact ⟨HXZ.out,rfl⟩
 case rest =>
  obtain ⟨hx5,rfl⟩:=hcut
  have HX5:=aAb hx5
  clear hx5 HX1
  by_cases hsm:(rowAt t.rows (fst r)).isSome=true
  ·have HE:Hid (rv=63):=by show _=_;rw [←HRV.out];unfold addE;rw [if_pos hsm]
   have e1:(if (rowAt t.rows (fst r)).isSome then (0:Int) else 4)=0:=if_pos hsm
   rw [e1]
   clear e1 hsm
   go_wp2
   go_ret
   exact ⟨by rw [HE.out];rfl,by rw [←HLL.out];exact HX5.out.be⟩
  ·have e1:(if (rowAt t.rows (fst r)).isSome then (0:Int) else 4)=4:=if_neg hsm
   rw [e1]
   have HSM:=aAb hsm
   have HCO:=aAb (tcount_ok (ca:=ca) (xa:=xa) (cc:=cc) (xc:=xc) (HD.out.later HX5.out.be) HI.out HLN.out HTI.out)
   obtain ⟨y0,y1,y2,y3,y4,m0,m1⟩:=HX5.out.sm
   clear e1 hsm
   go_wp2_with fail
   refine HCO.out.mono ?_
   rintro e w6 ⟨rfl,hb6⟩
   have HX6:=aAb (HX5.out.next hb6)
   obtain ⟨nr,hnr⟩:∃ nr,t.rows.length=nr:=⟨_,rfl⟩
   have HNR:=aAb hnr
   rw [hnr]
   clear hb6 HCO y0 y1 y2 y3 y4 m0 m1 HX5 hnr
   by_cases hc:64≤nr
   ·have xc1:(64:Int)≤(nr:Int):=by omega
    have HE:Hid (rv=2):=by show _=_;rw [←HRV.out];unfold addE;rw [if_neg HSM.out,if_pos (by rw [HNR.out];exact hc)]
    clear hc
    go_wp2
    go_ret
    exact ⟨by rw [HE.out];rfl,by rw [←HLL.out];exact HX6.out.be⟩
   ·have xc1:¬ (64:Int)≤(nr:Int):=by omega
    have HMS:=aAb (mayStand_ok (pv:=.slice pa r.length pc) (ca:=ca) (cc:=cc) (HD.out.later HX6.out.be) HI.out HLN.out HTI.out HR.out (HV.out.later HX6.out.be).v.hvs (HSC.out.later HX6.out.be).x)
    have HE:Hid (rv=if clash t.s t.rows r=true then 64 else 0):=by show _=_;rw [←HRV.out];unfold addE;rw [if_neg HSM.out,if_neg (by rw [HNR.out];exact hc)]
    rw [←HE.out] at HMS
    obtain ⟨y0,y1,y2,y3,y4,m0,m1⟩:=HX6.out.sm
    clear hc HE
    go_wp2_with fail
    refine HMS.out.mono ?_
    rintro e w7 ⟨rfl,hb7⟩
    have HX7:=aAb (HX6.out.next hb7)
    clear hb7 HMS y0 y1 y2 y3 y4 m0 m1
    go_wp2
    go_ret
    exact ⟨rfl,by rw [←HLL.out];exact HX7.out.be⟩
end Go.Proofs.YtgckjkocmkedfabGreat
set_option maxRecDepth 100000
set_option maxHeartbeats 16000000
set_option linter.unusedVariables false
namespace Go.Proofs.YtgckjkocmkedfabGreat
open Go.RowKit
theorem aBl {fn:Func} {p q u:Tmp} (h:fn.results=#[.cell p 86,.cell q 92,.tmp u]) (tmps:Array Value) (w:World) (g g2:Nat) (t t2:TypeId) (x0 x1 x2 x3 x4 y0 y1:Value) (fr fr2:Nat×Nat)
  (hp:tmps.getD p undef=.pointer (some ⟨g,0,none⟩)) (hq:tmps.getD q undef=.pointer (some ⟨g2,0,none⟩)) (hg:w.heap[g]?=some (.cells #[x0,x1,x2,x3,x4] t fr)) (hg2:w.heap[g2]?=some (.cells #[y0,y1] t2 fr2)) :
  (results fn tmps).run Tryz.prog w=.ok (.tuple #[.agg #[x0,x1,x2,x3,x4],.agg #[y0,y1],tmps.getD u undef]) w:=by
 have hp':tmps[p]?.getD undef=.pointer (some ⟨g,0,none⟩):=by simpa using hp
 have hq':tmps[q]?.getD undef=.pointer (some ⟨g2,0,none⟩):=by simpa using hq
 simp [results,h,hp',hq',asAddr,Sem.run_bind,Result.andThen,run_loadVar_row w g t 86 #[x0,x1,x2,x3,x4] fr _ hg Tryz.underlying86 rfl info_tab,run_loadVar_row w g2 t2 92 #[y0,y1] fr2 _ hg2 Tryz.underlying92 rfl info_hrow]
def zT:Value:=.agg #[.pointer none,.int .u8 0,.string ⟨#[]⟩,.slice none 0 0,.slice none 0 0]
def zR:Value:=.agg #[.slice none 0 0,.slice none 0 0]
def FitR (T:List Tbl) (nm:ByteArray) (r:List Val) (db:Nat) (pa:Option Addr) (pc:Nat) (e:Ending) (w':World):Prop :=
 (tAt T nm=none→e=.returned (.tuple #[zT,zR,.int .i64 60])) ∧
 ∀ i t,tAt T nm=some i→T[i]?=some t →
  (t.s.fits r≠0→e=.returned (.tuple #[zT,zR,.int .i64 (t.s.fits r)])) ∧
  (t.s.fits r=0→∃ ca cc xa xc va vc,e=.returned (.tuple #[tblV db i t.s ca cc xa xc,.agg #[.slice pa r.length pc,.slice va r.length vc],.int .i64 0])∧SC w' ca t.s.cs.length cc xa t.s.xs.length xc t.s∧RHd w' pa pc va vc r)
theorem fitting_ok [Gd] {B p q g ls db:Nat} {v:Value} {cs:List Ch} {W w0 w:World} {T:List Tbl} {r:List Val} {pa:Option Addr} {pc n:Nat} (h:DR B p q g ls db v cs W w0 w) (I:Inv cs T) (hl:cs.length≤1000) (nm:ByteArray) (hp:SVK fV 3 w pa n pc r) (hok:∀ x∈r,x.ok∧x.2.2.size≤1048576) :
  Calls Tryz.prog 37 #[.pointer (some ⟨db,0,none⟩),.string nm,.slice pa n pc] w fun e w'=>FitR T nm r db pa pc e w'∧Below w.heap.size w w':=by
 obtain ⟨R,hR⟩:∃ R,w.heap.size=R:=⟨_,rfl⟩
 obtain ⟨R2,hR2⟩:∃ R2,R+1=R2:=⟨_,rfl⟩
 obtain ⟨w1,hw1⟩:∃ w1,w1=(w.alloc (.cells #[.pointer none,.int .u8 0,.string ⟨#[]⟩,.slice none 0 0,.slice none 0 0] 86)).alloc (.cells #[.slice none 0 0,.slice none 0 0] 92):=⟨_,rfl⟩
 have hb1:Below w.heap.size w w1:=by rw [hw1];exact (aAf w _).trans ((aAf _ _).mono (aAf w _).size)
 have HZ1:Hid (w1.heap[R]?=some (.cells #[.pointer none,.int .u8 0,.string ⟨#[]⟩,.slice none 0 0,.slice none 0 0] 86 (0,0))):=by show _=_;rw [hw1,←hR];exact heap_alloc2_old w _ _
 have HY1:Hid (w1.heap[R2]?=some (.cells #[.slice none 0 0,.slice none 0 0] 92 (0,0))):=by show _=_;rw [hw1,←hR2,←hR];exact heap_alloc2_new w _ _
 have HB1:Hid (Below R w w1):=by show Below R w w1;rw [←hR];exact hb1
 have HRR:=aAb hR2
 have HI:=aAb I
 have HP:=aAb hp
 have hnl:=hp.hl
 have HNL:=aAb hnl
 have HOKS:=aAb hok
 have HFI:=aAb (aEh (h.later hb1) I hl nm)
 have HW1:=aAb hw1
 have HRS:=aAb hR
 rw [hR]
 clear h I hl hp hok hb1 hw1 hnl
 go_enter Tryz.func37,Tryz.ntmps37
 go_upto_region 1 with fail
 rw [←HW1.out]
 try simp only [hR,hR2]
 clear HW1
 go_wp2_with fail
 refine HFI.out.mono ?_
 rintro e w2 ⟨hfi,hb2⟩
 have HZ2:=aAb ((hb2.block R (aAe HZ1.out)).trans HZ1.out)
 have HY2:=aAb ((hb2.block R2 (aAe HY1.out)).trans HY1.out)
 have HB2:Hid (Below R w w2):=HB1.out.trans (hb2.mono (Nat.le_of_lt (aAe HZ1.out)))
 have HFR:=aAb hfi
 clear hfi hb2 HFI HZ1 HY1 HB1
 cases hta:tAt T nm with
 | none =>
  have he:=HFR.out.1 hta
  subst he
  have HTA:=aAb hta
  have hbx:=aAf w2 (.cells #[.pointer none,.int .u8 0,.string ⟨#[]⟩,.slice none 0 0,.slice none 0 0] 86)
  have HZ3:=aAb ((hbx.block R (aAe HZ2.out)).trans HZ2.out)
  have HY3:=aAb ((hbx.block R2 (aAe HY2.out)).trans HY2.out)
  have HB3:Hid (Below R w (w2.alloc (.cells #[.pointer none,.int .u8 0,.string ⟨#[]⟩,.slice none 0 0,.slice none 0 0] 86))):=HB2.out.trans (hbx.mono (Nat.le_of_lt (aAe HZ2.out)))
  clear hbx hta HFR
  go_upto_region 2 with fail
  generalize w2.alloc (.cells #[.pointer none,.int .u8 0,.string ⟨#[]⟩,.slice none 0 0,.slice none 0 0] 86)=w3 at *
  have t0:w3.cell? ⟨R,0,none⟩=some (.pointer none):=aAa HZ3.out
  have tf0:w3.frozen? ⟨R,0,none⟩=false:=aAg HZ3.out
  have t1:w3.cell? ⟨R,1,none⟩=some (.int .u8 0):=aAa HZ3.out
  have tf1:w3.frozen? ⟨R,1,none⟩=false:=aAg HZ3.out
  have t2:w3.cell? ⟨R,2,none⟩=some (.string ⟨#[]⟩):=aAa HZ3.out
  have tf2:w3.frozen? ⟨R,2,none⟩=false:=aAg HZ3.out
  have t3:w3.cell? ⟨R,3,none⟩=some (.slice none 0 0):=aAa HZ3.out
  have tf3:w3.frozen? ⟨R,3,none⟩=false:=aAg HZ3.out
  have t4:w3.cell? ⟨R,4,none⟩=some (.slice none 0 0):=aAa HZ3.out
  have tf4:w3.frozen? ⟨R,4,none⟩=false:=aAg HZ3.out
  have r0:w3.cell? ⟨R2,0,none⟩=some (.slice none 0 0):=aAa HY3.out
  have rf0:w3.frozen? ⟨R2,0,none⟩=false:=aAg HY3.out
  have r1:w3.cell? ⟨R2,1,none⟩=some (.slice none 0 0):=aAa HY3.out
  have rf1:w3.frozen? ⟨R2,1,none⟩=false:=aAg HY3.out
  go_wp2
  (try simp only [Exit.inBlock,Exit.then])
  refine bodyPost_ret (aBl Tryz.results37 _ _ R R2 _ _ _ _ _ _ _ _ _ _ _ rfl rfl ((aBf (show R≠R2 by have:=HRR.out;omega)).trans (aIj HZ3.out)) (aF0 ((aDh (show R2≠R by have:=HRR.out;omega)).trans HY3.out))) rfl ?_
  exact ⟨⟨fun _=>rfl,fun i t q=>nomatch (HTA.out.symm.trans q)⟩,aCv (aGp HB3.out (nR _)) (show R≤R2 by have:=HRR.out;omega)⟩
 | some i =>
  obtain ⟨t,hti,htn,htm⟩:=aBq hta
  subst htn
  obtain ⟨ca,cc,xa,xc,he,hsc⟩:=HFR.out.2 i t hta hti
  unfold tblV at he
  subst he
  have HTA:=aAb hta
  have HTI:=aAb hti
  have HOK:=aAb (HI.out.ok t htm)
  have hbx:=aAf w2 (.cells #[.pointer (some ⟨db,0,none⟩),.int .u8 (i:Int),.string t.s.nm,.slice ca t.s.cs.length cc,.slice xa t.s.xs.length xc] 86)
  have HV3:Hid ((w2.alloc (.cells #[.pointer (some ⟨db,0,none⟩),.int .u8 (i:Int),.string t.s.nm,.slice ca t.s.cs.length cc,.slice xa t.s.xs.length xc] 86)).heap[w2.heap.size]?=some (.cells #[.pointer (some ⟨db,0,none⟩),.int .u8 (i:Int),.string t.s.nm,.slice ca t.s.cs.length cc,.slice xa t.s.xs.length xc] 86 (0,0))):=boxed w2 _
  have HZ3:=aAb ((hbx.block R (aAe HZ2.out)).trans HZ2.out)
  have HY3:=aAb ((hbx.block R2 (aAe HY2.out)).trans HY2.out)
  have HB3:Hid (Below R w (w2.alloc (.cells #[.pointer (some ⟨db,0,none⟩),.int .u8 (i:Int),.string t.s.nm,.slice ca t.s.cs.length cc,.slice xa t.s.xs.length xc] 86))):=HB2.out.trans (hbx.mono (Nat.le_of_lt (aAe HZ2.out)))
  have HSC3:=aAb (hsc.later hbx)
  have HVR:Hid (R<w2.heap.size∧R2<w2.heap.size):=⟨aAe HZ2.out,aAe HY2.out⟩
  clear hbx hta hti htm HFR hsc HZ2 HY2 HB2
  go_upto_region 2 with fail
  generalize w2.alloc (.cells #[.pointer (some ⟨db,0,none⟩),.int .u8 (i:Int),.string t.s.nm,.slice ca t.s.cs.length cc,.slice xa t.s.xs.length xc] 86)=w3 at *
  generalize w2.heap.size=V at *
  have HFT:=aAb (sfits_any HSC3.out (HP.out.later (by rw [HRS.out];exact HB3.out)) (fun x hx=>(HOKS.out x hx).2))
  obtain ⟨fv,hfv⟩:∃ fv,t.s.fits r=fv:=⟨_,rfl⟩
  rw [hfv] at HFT
  have HFV:=aAb hfv
  have v2:w3.cell? ⟨V,2,none⟩=some (.string t.s.nm):=aAa HV3.out
  have v3:w3.cell? ⟨V,3,none⟩=some (.slice ca t.s.cs.length cc):=aAa HV3.out
  have v4:w3.cell? ⟨V,4,none⟩=some (.slice xa t.s.xs.length xc):=aAa HV3.out
  clear hfv
  go_wp2_with fail
  refine HFT.out.mono ?_
  rintro e w4 ⟨rfl,hb4⟩
  have HZ4:=aAb ((hb4.block R (aAe HZ3.out)).trans HZ3.out)
  have HY4:=aAb ((hb4.block R2 (aAe HY3.out)).trans HY3.out)
  have HB4:Hid (Below R w w4):=HB3.out.trans (hb4.mono (Nat.le_of_lt (aAe HZ3.out)))
  have HV4:=aAb ((hb4.block V (aAe HV3.out)).trans HV3.out)
  have HSC4:=aAb (HSC3.out.later hb4)
  have HP4:=aAb (HP.out.later (w':=w4) (by rw [HRS.out];exact HB4.out))
  clear hb4 HFT HSC3 v2 v3 v4 HZ3 HY3 HB3 HV3
  by_cases hf0:fv=0
  ·have HF0:=aAb hf0
   subst hf0
   have HRO:Hid (RowOk t.s r):=fits_ok HOK.out (fun x hx=>(HOKS.out x hx).1) HFV.out
   have HHR:=aAb (aFj HP4.out (by have:=HRO.out.len;have:=(Sch.c3 HOK.out).2;have:=HNL.out;omega) (fun x hx=>by have h9:=HRO.out.val hx;exact ⟨h9.1,h9.2.1,(HOKS.out x hx).2⟩))
   have HVN:Hid (V≠R∧V≠R2):=by have:=HVR.out;exact ⟨by omega,by omega⟩
   go_upto_region 7 with fail
   have HV5:Hid (w4.drew.heap[V]?=some (.cells #[.pointer (some ⟨db,0,none⟩),.int .u8 (i:Int),.string t.s.nm,.slice ca t.s.cs.length cc,.slice xa t.s.xs.length xc] 86 (0,0))):=HV4.out
   have HX0:Hid ((fun wx:World=>wx.cell? ⟨V,0,none⟩=some (.pointer (some ⟨db,0,none⟩))∧wx.cell? ⟨V,1,none⟩=some (.int .u8 (i:Int))∧wx.cell? ⟨V,2,none⟩=some (.string t.s.nm)∧wx.cell? ⟨V,3,none⟩=some (.slice ca t.s.cs.length cc)∧wx.cell? ⟨V,4,none⟩=some (.slice xa t.s.xs.length xc)) w4.drew):=⟨aAa HV5.out,aAa HV5.out,aAa HV5.out,aAa HV5.out,aAa HV5.out⟩
   refine wp_region_noPanic ?_
   refine wp_region_held_drew (S:=fun wx=>wx.cell? ⟨V,0,none⟩=some (.pointer (some ⟨db,0,none⟩))∧wx.cell? ⟨V,1,none⟩=some (.int .u8 (i:Int))∧wx.cell? ⟨V,2,none⟩=some (.string t.s.nm)∧wx.cell? ⟨V,3,none⟩=some (.slice ca t.s.cs.length cc)∧wx.cell? ⟨V,4,none⟩=some (.slice xa t.s.xs.length xc)) (by kernel_rfl) HX0.out (fun hHeld=>?_)
   have HZ5:Hid (w4.drew.heap[R]?=some (.cells #[.pointer none,.int .u8 0,.string ⟨#[]⟩,.slice none 0 0,.slice none 0 0] 86 (0,0))):=HZ4.out
   have HY5:Hid (w4.drew.heap[R2]?=some (.cells #[.slice none 0 0,.slice none 0 0] 92 (0,0))):=HY4.out
   have HB5:Hid (Below R w w4.drew):=HB4.out.drew
   have HSC5:Hid (SC w4.drew ca t.s.cs.length cc xa t.s.xs.length xc t.s):=HSC4.out.later (Below.refl _ _).drew
   have HP5:Hid (SVK fV 3 w4.drew pa n pc r):=HP4.out.later (Below.refl _ _).drew
   clear HHR
   have HHR:=aAb (aFj HP5.out (by have:=HRO.out.len;have:=(Sch.c3 HOK.out).2;have:=HNL.out;omega) (fun x hx=>by have h9:=HRO.out.val hx;exact ⟨h9.1,h9.2.1,(HOKS.out x hx).2⟩))
   generalize w4.drew=w5 at *
   refine wpAnyH_tk 0 32 ?_
   refine wpAnyH_tk 1 33 ?_
   refine wpAnyH_cm 2 ?_;intro K hK
   go_simp
   refine HHR.out.mono ?_
   rintro e w6 ⟨va,vc,rfl,hv,hb6⟩
   have HZ6:=aAb ((hb6.block R (aAe HZ5.out)).trans HZ5.out)
   have HY6:=aAb ((hb6.block R2 (aAe HY5.out)).trans HY5.out)
   have HB6:Hid (Below R w w6):=HB5.out.trans (hb6.mono (Nat.le_of_lt (aAe HZ5.out)))
   have HV6:=aAb ((hb6.block V (aAe HV5.out)).trans HV5.out)
   have HSC6:=aAb (HSC5.out.later hb6)
   have HRH:Hid (RHd w6 pa pc va vc r):=⟨by rw [HNL.out];exact HP5.out.later hb6,by rw [HNL.out];exact hv⟩
   clear hv hb6 hHeld HHR
   refine hK.out _ _ ⟨aAa HV6.out,aAa HV6.out,aAa HV6.out,aAa HV6.out,aAa HV6.out⟩ (fun hHeld=>?_)
   clear hK K
   try simp only [Act.put,siT,scZ,scS]
   refine wpAnyH_cm 3 ?_;intro K hK
   have t0:w6.cell? ⟨R,0,none⟩=some (.pointer none):=aAa HZ6.out
   have tf0:w6.frozen? ⟨R,0,none⟩=false:=aAg HZ6.out
   have t1:w6.cell? ⟨R,1,none⟩=some (.int .u8 0):=aAa HZ6.out
   have tf1:w6.frozen? ⟨R,1,none⟩=false:=aAg HZ6.out
   have t2:w6.cell? ⟨R,2,none⟩=some (.string ⟨#[]⟩):=aAa HZ6.out
   have tf2:w6.frozen? ⟨R,2,none⟩=false:=aAg HZ6.out
   have t3:w6.cell? ⟨R,3,none⟩=some (.slice none 0 0):=aAa HZ6.out
   have tf3:w6.frozen? ⟨R,3,none⟩=false:=aAg HZ6.out
   have t4:w6.cell? ⟨R,4,none⟩=some (.slice none 0 0):=aAa HZ6.out
   have tf4:w6.frozen? ⟨R,4,none⟩=false:=aAg HZ6.out
   go_simp
   clear t0 tf0 t1 tf1 t2 tf2 t3 tf3 t4 tf4 hHeld
   have HV7:=aAb ((aDh (b0:=.pointer (some ⟨db,0,none⟩)) (b1:=.int .u8 (i:Int)) (b2:=.string t.s.nm) (b3:=.slice ca t.s.cs.length cc) (b4:=.slice xa t.s.xs.length xc) HVN.out.1).trans HV6.out)
   refine hK.out _ _ ⟨aAa HV7.out,aAa HV7.out,aAa HV7.out,aAa HV7.out,aAa HV7.out⟩ (fun hHeld=>?_)
   have HZ7:=aAb (aIj (b0:=.pointer (some ⟨db,0,none⟩)) (b1:=.int .u8 (i:Int)) (b2:=.string t.s.nm) (b3:=.slice ca t.s.cs.length cc) (b4:=.slice xa t.s.xs.length xc) HZ6.out)
   have HY7:=aAb ((aDh (b0:=.pointer (some ⟨db,0,none⟩)) (b1:=.int .u8 (i:Int)) (b2:=.string t.s.nm) (b3:=.slice ca t.s.cs.length cc) (b4:=.slice xa t.s.xs.length xc) (show R2≠R by have:=HRR.out;omega)).trans HY6.out)
   have HB7:=aAb (aGp (b0:=.pointer (some ⟨db,0,none⟩)) (b1:=.int .u8 (i:Int)) (b2:=.string t.s.nm) (b3:=.slice ca t.s.cs.length cc) (b4:=.slice xa t.s.xs.length xc) HB6.out (nR R))
   have HSC7:=aAb (HSC6.out.oth (w':=(((((w6.setCell ⟨R,0,none⟩ (.pointer (some ⟨db,0,none⟩))).setCell ⟨R,1,none⟩ (.int .u8 (i:Int))).setCell ⟨R,2,none⟩ (.string t.s.nm)).setCell ⟨R,3,none⟩ (.slice ca t.s.cs.length cc)).setCell ⟨R,4,none⟩ (.slice xa t.s.xs.length xc))) HZ6.out noV_tab.1 set5S (fun _ hb=>aDh hb))
   have HRH7:=aAb (HRH.out.set5 (b0:=.pointer (some ⟨db,0,none⟩)) (b1:=.int .u8 (i:Int)) (b2:=.string t.s.nm) (b3:=.slice ca t.s.cs.length cc) (b4:=.slice xa t.s.xs.length xc) HZ6.out)
   generalize (((((w6.setCell ⟨R,0,none⟩ (.pointer (some ⟨db,0,none⟩))).setCell ⟨R,1,none⟩ (.int .u8 (i:Int))).setCell ⟨R,2,none⟩ (.string t.s.nm)).setCell ⟨R,3,none⟩ (.slice ca t.s.cs.length cc)).setCell ⟨R,4,none⟩ (.slice xa t.s.xs.length xc))=w7 at *
   clear hK K
   try simp only [Act.put,siT,scZ,scS]
   refine wpAnyH_cm 4 ?_;intro K hK
   have r0:w7.cell? ⟨R2,0,none⟩=some (.slice none 0 0):=aAa HY7.out
   have rf0:w7.frozen? ⟨R2,0,none⟩=false:=aAg HY7.out
   have r1:w7.cell? ⟨R2,1,none⟩=some (.slice none 0 0):=aAa HY7.out
   have rf1:w7.frozen? ⟨R2,1,none⟩=false:=aAg HY7.out
   go_simp
   clear r0 rf0 r1 rf1 hHeld
   have HV8:=aAb ((aBf (b0:=.slice pa n pc) (b1:=.slice va n vc) HVN.out.2).trans HV7.out)
   refine hK.out _ _ ⟨aAa HV8.out,aAa HV8.out,aAa HV8.out,aAa HV8.out,aAa HV8.out⟩ (fun hHeld=>?_)
   clear hK K
   try simp only [Act.put,siT,scZ,scS]
   refine wpAnyH_tk 5 8 ?_
   refine wpAnyH_done (by kernel_rfl) ?_ _
   refine NoPanic.normal ?_
   clear hHeld
   go_wp2
   (try simp only [Exit.inBlock,Exit.then])
   refine bodyPost_ret (aBl Tryz.results37 _ _ R R2 _ _ _ _ _ _ _ _ _ _ _ rfl rfl ((aBf (show R≠R2 by have:=HRR.out;omega)).trans HZ7.out) (aF0 HY7.out)) rfl ?_
   refine ⟨⟨(fun q=>nomatch (HTA.out.symm.trans q)),fun i2 t2 q1 q2=>?_⟩,aCv HB7.out (show R≤R2 by have:=HRR.out;omega)⟩
   have e1:=HTA.out.symm.trans q1
   simp only [oI] at e1
   subst e1
   have e2:=HTI.out.symm.trans q2
   simp only [oI] at e2
   subst e2
   refine ⟨fun q=>absurd HFV.out q,fun _=>⟨ca,cc,xa,xc,va,vc,by rw [HNL.out];rfl,HSC7.out.oth HY7.out aFg.1 (aCv (Below.refl 0 w7) (Nat.zero_le _)).size (fun _ hb=>aBf hb),HRH7.out.set2 HY7.out⟩⟩
  ·have hf1:(fv == 0)=false:=by simpa using hf0
   have hf2:(fv != 0)=true:=by simpa using hf0
   have HF0:=aAb hf0
   have t0:w4.cell? ⟨R,0,none⟩=some (.pointer none):=aAa HZ4.out
   have tf0:w4.frozen? ⟨R,0,none⟩=false:=aAg HZ4.out
   have t1:w4.cell? ⟨R,1,none⟩=some (.int .u8 0):=aAa HZ4.out
   have tf1:w4.frozen? ⟨R,1,none⟩=false:=aAg HZ4.out
   have t2:w4.cell? ⟨R,2,none⟩=some (.string ⟨#[]⟩):=aAa HZ4.out
   have tf2:w4.frozen? ⟨R,2,none⟩=false:=aAg HZ4.out
   have t3:w4.cell? ⟨R,3,none⟩=some (.slice none 0 0):=aAa HZ4.out
   have tf3:w4.frozen? ⟨R,3,none⟩=false:=aAg HZ4.out
   have t4:w4.cell? ⟨R,4,none⟩=some (.slice none 0 0):=aAa HZ4.out
   have tf4:w4.frozen? ⟨R,4,none⟩=false:=aAg HZ4.out
   have r0:w4.cell? ⟨R2,0,none⟩=some (.slice none 0 0):=aAa HY4.out
   have rf0:w4.frozen? ⟨R2,0,none⟩=false:=aAg HY4.out
   have r1:w4.cell? ⟨R2,1,none⟩=some (.slice none 0 0):=aAa HY4.out
   have rf1:w4.frozen? ⟨R2,1,none⟩=false:=aAg HY4.out
   go_wp2
   (try simp only [Exit.inBlock,Exit.then])
   refine bodyPost_ret (aBl Tryz.results37 _ _ R R2 _ _ _ _ _ _ _ _ _ _ _ rfl rfl ((aBf (show R≠R2 by have:=HRR.out;omega)).trans (aIj HZ4.out)) (aF0 ((aDh (show R2≠R by have:=HRR.out;omega)).trans HY4.out))) rfl ?_
   refine ⟨⟨(fun q=>nomatch (HTA.out.symm.trans q)),fun i2 t2 q1 q2=>?_⟩,aCv (aGp HB4.out (nR _)) (show R≤R2 by have:=HRR.out;omega)⟩
   have e1:=HTA.out.symm.trans q1
   simp only [oI] at e1
   subst e1
   have e2:=HTI.out.symm.trans q2
   simp only [oI] at e2
   subst e2
   exact ⟨fun _=>by rw [HFV.out];rfl,fun q=>absurd (HFV.out.symm.trans q) HF0.out⟩
def GQ (t:Tbl) (x:Val) (pa:Option Addr) (n pc:Nat) (va:Option Addr) (vc:Nat) (w:World):Prop :=
 (rowAt t.rows x=none→pa=none∧n=0∧pc=0∧va=none∧vc=0)∧∀ o,rowAt t.rows x=some o→n=o.length∧RHd w pa pc va vc o
theorem GetR.gq {t:Tbl} {x:Val} {e:Ending} {w:World} (h:GetR t x e w):∃ pa n pc va vc,e=.returned (.tuple #[.agg #[.slice pa n pc,.slice va n vc],.int .i64 (if (rowAt t.rows x).isSome then (0:Int) else 4)])∧GQ t x pa n pc va vc w:=by
 cases hra:rowAt t.rows x with
 | none=>exact ⟨none,0,0,none,0,h.1 hra,fun _=>⟨rfl,rfl,rfl,rfl,rfl⟩,fun o q=>by rw [hra] at q;cases q⟩
 | some o =>
  obtain ⟨pa,pc,va,vc,he,hr⟩:=h.2 o hra
  refine ⟨pa,o.length,pc,va,vc,he,fun q=>?_,fun o' q=>?_⟩
  ·rw [hra] at q;cases q
  ·rw [hra,oI] at q
   subst q
   exact ⟨rfl,hr⟩
theorem GQ.later {t:Tbl} {x:Val} {pa va:Option Addr} {n pc vc:Nat} {w w':World} (h:GQ t x pa n pc va vc w) (hb:Below w.heap.size w w'):GQ t x pa n pc va vc w':=⟨h.1,fun o q=>⟨(h.2 o q).1,(h.2 o q).2.later hb⟩⟩
theorem GQ.set2 {t:Tbl} {x:Val} {pa va a b:Option Addr} {n pc vc m c k d R:Nat} {w:World} {b0 b1:Value} (h:GQ t x pa n pc va vc w) (hR:w.heap[R]?=some (.cells #[.slice a m c,.slice b k d] 92 (0,0))):GQ t x pa n pc va vc ((w.setCell ⟨R,0,none⟩ b0).setCell ⟨R,1,none⟩ b1):=⟨h.1,fun o q=>⟨(h.2 o q).1,(h.2 o q).2.set2 hR⟩⟩
theorem GQ.set5 {t:Tbl} {x:Val} {pa va p a b:Option Addr} {i:Int} {sx:ByteArray} {n pc vc m c k d R:Nat} {w:World} {b0 b1 b2 b3 b4:Value} (h:GQ t x pa n pc va vc w) (hR:w.heap[R]?=some (.cells #[.pointer p,.int .u8 i,.string sx,.slice a m c,.slice b k d] 86 (0,0))):GQ t x pa n pc va vc (((((w.setCell ⟨R,0,none⟩ b0).setCell ⟨R,1,none⟩ b1).setCell ⟨R,2,none⟩ b2).setCell ⟨R,3,none⟩ b3).setCell ⟨R,4,none⟩ b4):=⟨h.1,fun o q=>⟨(h.2 o q).1,(h.2 o q).2.set5 hR⟩⟩
def FdR (T:List Tbl) (nm:ByteArray) (x:Val) (db:Nat) (e:Ending) (w':World):Prop :=
 (tAt T nm=none→e=.returned (.tuple #[zT,zR,.int .i64 60])) ∧
 ∀ i t,tAt T nm=some i→T[i]?=some t →
  (x.err≠0→e=.returned (.tuple #[zT,zR,.int .i64 62])) ∧
  (x.err=0→∃ ca cc xa xc pa n pc va vc,e=.returned (.tuple #[tblV db i t.s ca cc xa xc,.agg #[.slice pa n pc,.slice va n vc],.int .i64 (if (rowAt t.rows x).isSome then (0:Int) else 4)])∧SC w' ca t.s.cs.length cc xa t.s.xs.length xc t.s∧GQ t x pa n pc va vc w')
theorem aH7 [Gd] {B p q g ls db:Nat} {v:Value} {cs:List Ch} {W w0 w:World} {T:List Tbl} {x:Val} (h:DR B p q g ls db v cs W w0 w) (I:Inv cs T) (hl:cs.length≤1000) (nm:ByteArray) (hx:x.ok) (hxs:x.2.2.size≤1048576) :
  Calls Tryz.prog 41 #[.pointer (some ⟨db,0,none⟩),.string nm,.agg #[.int .i64 x.1,.int .i64 x.2.1,.string x.2.2]] w fun e w'=>FdR T nm x db e w'∧Below w.heap.size w w':=by
 obtain ⟨KB,hK0⟩:∃ KB,w.heap.size=KB:=⟨_,rfl⟩
 obtain ⟨R,hR⟩:∃ R,KB+1=R:=⟨_,rfl⟩
 obtain ⟨R2,hR2⟩:∃ R2,R+1=R2:=⟨_,rfl⟩
 obtain ⟨w1,hw1⟩:∃ w1,w1=((w.alloc (.cells #[.int .i64 x.1,.int .i64 x.2.1,.string x.2.2] 37)).alloc (.cells #[.pointer none,.int .u8 0,.string ⟨#[]⟩,.slice none 0 0,.slice none 0 0] 86)).alloc (.cells #[.slice none 0 0,.slice none 0 0] 92):=⟨_,rfl⟩
 have hb1:Below w.heap.size w w1:=by rw [hw1];exact al3_below _ _ _ _
 have HK1:Hid (w1.heap[KB]?=some (.cells #[.int .i64 x.1,.int .i64 x.2.1,.string x.2.2] 37 (0,0))):=by show _=_;rw [hw1,←hK0];exact al3_0 w _ _ _
 have HZ1:Hid (w1.heap[R]?=some (.cells #[.pointer none,.int .u8 0,.string ⟨#[]⟩,.slice none 0 0,.slice none 0 0] 86 (0,0))):=by show _=_;rw [hw1,←hR,←hK0];exact al3_1 w _ _ _
 have HY1:Hid (w1.heap[R2]?=some (.cells #[.slice none 0 0,.slice none 0 0] 92 (0,0))):=by show _=_;rw [hw1,←hR2,←hR,←hK0];exact al3_2 w _ _ _
 have HB1:Hid (Below KB w w1):=by show Below KB w w1;rw [←hK0];exact hb1
 have HRR:=aAb (And.intro hR hR2)
 have HI:=aAb I
 have HLN:=aAb hl
 have HD:=aAb h
 have HXO:=aAb (And.intro hx hxs)
 have HFI:=aAb (aEh (h.later hb1) I hl nm)
 have HW1:=aAb hw1
 have HKS:=aAb hK0
 rw [hK0]
 clear h I hl hb1 hw1 hx hxs
 go_enter Tryz.func41,Tryz.ntmps41
 go_upto_region 1 with fail
 rw [←HW1.out]
 try simp only [hK0,hR,hR2]
 clear HW1
 go_wp2_with fail
 refine HFI.out.mono ?_
 rintro e w2 ⟨hfi,hb2⟩
 have HK2:=aAb ((hb2.block KB (aAe HK1.out)).trans HK1.out)
 have HZ2:=aAb ((hb2.block R (aAe HZ1.out)).trans HZ1.out)
 have HY2:=aAb ((hb2.block R2 (aAe HY1.out)).trans HY1.out)
 have HB2:Hid (Below KB w w2):=HB1.out.trans (hb2.mono (Nat.le_of_lt (aAe HK1.out)))
 have HFR:=aAb hfi
 clear hfi hb2 HFI HZ1 HY1 HB1 HK1
 cases hta:tAt T nm with
 | none =>
  have he:=HFR.out.1 hta
  subst he
  have HTA:=aAb hta
  have hbx:=aAf w2 (.cells #[.pointer none,.int .u8 0,.string ⟨#[]⟩,.slice none 0 0,.slice none 0 0] 86)
  have HK3:=aAb ((hbx.block KB (aAe HK2.out)).trans HK2.out)
  have HZ3:=aAb ((hbx.block R (aAe HZ2.out)).trans HZ2.out)
  have HY3:=aAb ((hbx.block R2 (aAe HY2.out)).trans HY2.out)
  have HB3:Hid (Below KB w (w2.alloc (.cells #[.pointer none,.int .u8 0,.string ⟨#[]⟩,.slice none 0 0,.slice none 0 0] 86))):=HB2.out.trans (hbx.mono (Nat.le_of_lt (aAe HK2.out)))
  clear hbx hta HFR
  go_upto_region 2 with fail
  generalize w2.alloc (.cells #[.pointer none,.int .u8 0,.string ⟨#[]⟩,.slice none 0 0,.slice none 0 0] 86)=w3 at *
  have t0:w3.cell? ⟨R,0,none⟩=some (.pointer none):=aAa HZ3.out
  have tf0:w3.frozen? ⟨R,0,none⟩=false:=aAg HZ3.out
  have t1:w3.cell? ⟨R,1,none⟩=some (.int .u8 0):=aAa HZ3.out
  have tf1:w3.frozen? ⟨R,1,none⟩=false:=aAg HZ3.out
  have t2:w3.cell? ⟨R,2,none⟩=some (.string ⟨#[]⟩):=aAa HZ3.out
  have tf2:w3.frozen? ⟨R,2,none⟩=false:=aAg HZ3.out
  have t3:w3.cell? ⟨R,3,none⟩=some (.slice none 0 0):=aAa HZ3.out
  have tf3:w3.frozen? ⟨R,3,none⟩=false:=aAg HZ3.out
  have t4:w3.cell? ⟨R,4,none⟩=some (.slice none 0 0):=aAa HZ3.out
  have tf4:w3.frozen? ⟨R,4,none⟩=false:=aAg HZ3.out
  have r0:w3.cell? ⟨R2,0,none⟩=some (.slice none 0 0):=aAa HY3.out
  have rf0:w3.frozen? ⟨R2,0,none⟩=false:=aAg HY3.out
  have r1:w3.cell? ⟨R2,1,none⟩=some (.slice none 0 0):=aAa HY3.out
  have rf1:w3.frozen? ⟨R2,1,none⟩=false:=aAg HY3.out
  go_wp2
  (try simp only [Exit.inBlock,Exit.then])
  refine bodyPost_ret (aBl Tryz.results41 _ _ R R2 _ _ _ _ _ _ _ _ _ _ _ rfl rfl ((aBf (show R≠R2 by have:=HRR.out;omega)).trans (aIj HZ3.out)) (aF0 ((aDh (show R2≠R by have:=HRR.out;omega)).trans HY3.out))) rfl ?_
  exact ⟨⟨fun _=>rfl,fun i t q=>nomatch (HTA.out.symm.trans q)⟩,aCv (aGp HB3.out (show KB≤R by have:=HRR.out;omega)) (show KB≤R2 by have:=HRR.out;omega)⟩
 | some i =>
  obtain ⟨t,hti,htn,htm⟩:=aBq hta
  subst htn
  obtain ⟨ca,cc,xa,xc,he,hsc⟩:=HFR.out.2 i t hta hti
  unfold tblV at he
  subst he
  have HTA:=aAb hta
  have HTI:=aAb hti
  have HOK:=aAb (HI.out.ok t htm)
  have hbx:=aAf w2 (.cells #[.pointer (some ⟨db,0,none⟩),.int .u8 (i:Int),.string t.s.nm,.slice ca t.s.cs.length cc,.slice xa t.s.xs.length xc] 86)
  have HV3:Hid ((w2.alloc (.cells #[.pointer (some ⟨db,0,none⟩),.int .u8 (i:Int),.string t.s.nm,.slice ca t.s.cs.length cc,.slice xa t.s.xs.length xc] 86)).heap[w2.heap.size]?=some (.cells #[.pointer (some ⟨db,0,none⟩),.int .u8 (i:Int),.string t.s.nm,.slice ca t.s.cs.length cc,.slice xa t.s.xs.length xc] 86 (0,0))):=boxed w2 _
  have HK3:=aAb ((hbx.block KB (aAe HK2.out)).trans HK2.out)
  have HZ3:=aAb ((hbx.block R (aAe HZ2.out)).trans HZ2.out)
  have HY3:=aAb ((hbx.block R2 (aAe HY2.out)).trans HY2.out)
  have HB3:Hid (Below KB w (w2.alloc (.cells #[.pointer (some ⟨db,0,none⟩),.int .u8 (i:Int),.string t.s.nm,.slice ca t.s.cs.length cc,.slice xa t.s.xs.length xc] 86))):=HB2.out.trans (hbx.mono (Nat.le_of_lt (aAe HK2.out)))
  have HSC3:=aAb (hsc.later hbx)
  have HVN:Hid (R<w2.heap.size∧R2<w2.heap.size):=⟨aAe HZ2.out,aAe HY2.out⟩
  clear hbx hta hti htm HFR hsc HZ2 HY2 HB2 HK2
  go_upto_region 2 with fail
  generalize w2.alloc (.cells #[.pointer (some ⟨db,0,none⟩),.int .u8 (i:Int),.string t.s.nm,.slice ca t.s.cs.length cc,.slice xa t.s.xs.length xc] 86)=w3 at *
  generalize w2.heap.size=V at *
  have HRI:=aAb (aEq x.1 x.2.1 x.2.2 w3 HXO.out.2)
  unfold av at HRI
  obtain ⟨fv,hfv⟩:∃ fv,rightOf x.1 x.2.1 x.2.2=fv:=⟨_,rfl⟩
  rw [hfv] at HRI
  have HFV:Hid (x.err=fv):=hfv
  have k0:w3.cell? ⟨KB,0,none⟩=some (.int .i64 x.1):=aAa HK3.out
  have k1:w3.cell? ⟨KB,1,none⟩=some (.int .i64 x.2.1):=aAa HK3.out
  have k2:w3.cell? ⟨KB,2,none⟩=some (.string x.2.2):=aAa HK3.out
  clear hfv
  go_wp2_with fail
  refine HRI.out.mono ?_
  rintro e w4 ⟨rfl,hb4⟩
  have HK4:=aAb ((hb4.block KB (aAe HK3.out)).trans HK3.out)
  have HZ4:=aAb ((hb4.block R (aAe HZ3.out)).trans HZ3.out)
  have HY4:=aAb ((hb4.block R2 (aAe HY3.out)).trans HY3.out)
  have HB4:Hid (Below KB w w4):=HB3.out.trans (hb4.mono (Nat.le_of_lt (aAe HK3.out)))
  have HV4:=aAb ((hb4.block V (aAe HV3.out)).trans HV3.out)
  have HSC4:=aAb (HSC3.out.later hb4)
  clear hb4 HRI HSC3 k0 k1 k2 HZ3 HY3 HB3 HV3 HK3
  by_cases hf0:fv=0
  ·subst hf0
   have HXE:Hid (x.err=0):=HFV.out
   go_upto_region 6 with fail
   have HV5:Hid (w4.drew.heap[V]?=some (.cells #[.pointer (some ⟨db,0,none⟩),.int .u8 (i:Int),.string t.s.nm,.slice ca t.s.cs.length cc,.slice xa t.s.xs.length xc] 86 (0,0))):=HV4.out
   have HK5:Hid (w4.drew.heap[KB]?=some (.cells #[.int .i64 x.1,.int .i64 x.2.1,.string x.2.2] 37 (0,0))):=HK4.out
   have HZ5:Hid (w4.drew.heap[R]?=some (.cells #[.pointer none,.int .u8 0,.string ⟨#[]⟩,.slice none 0 0,.slice none 0 0] 86 (0,0))):=HZ4.out
   have HY5:Hid (w4.drew.heap[R2]?=some (.cells #[.slice none 0 0,.slice none 0 0] 92 (0,0))):=HY4.out
   have HB5:Hid (Below KB w w4.drew):=HB4.out.drew
   have HSC5:Hid (SC w4.drew ca t.s.cs.length cc xa t.s.xs.length xc t.s):=HSC4.out.later (Below.refl _ _).drew
   obtain ⟨ge,hge⟩:∃ ge:Int,(if (rowAt t.rows x).isSome then (0:Int) else 4)=ge:=⟨_,rfl⟩
   have HGE:=aAb hge
   clear hge
   go_cut [10,11] from 13 to 40 (fun s10 s11 wx=>s10=.int .i64 ge∧∃ Q fa fn fc ga gc,s11=.pointer (some ⟨Q,0,none⟩)∧wx.heap[Q]?=some (.cells #[.slice fa fn fc,.slice ga fn gc] 92 (0,0))∧GQ t x fa fn fc ga gc wx∧wx.heap[V]?=some (.cells #[.pointer (some ⟨db,0,none⟩),.int .u8 (i:Int),.string t.s.nm,.slice ca t.s.cs.length cc,.slice xa t.s.xs.length xc] 86 (0,0))∧wx.heap[R]?=some (.cells #[.pointer none,.int .u8 0,.string ⟨#[]⟩,.slice none 0 0,.slice none 0 0] 86 (0,0))∧wx.heap[R2]?=some (.cells #[.slice none 0 0,.slice none 0 0] 92 (0,0))∧Below KB w wx∧SC wx ca t.s.cs.length cc xa t.s.xs.length xc t.s∧Q≠R∧Q≠R2)
   case first =>
    have HX0:Hid ((fun wx:World=>wx.cell? ⟨V,0,none⟩=some (.pointer (some ⟨db,0,none⟩))∧wx.cell? ⟨V,1,none⟩=some (.int .u8 (i:Int))∧wx.cell? ⟨V,2,none⟩=some (.string t.s.nm)∧wx.cell? ⟨V,3,none⟩=some (.slice ca t.s.cs.length cc)∧wx.cell? ⟨V,4,none⟩=some (.slice xa t.s.xs.length xc)∧wx.cell? ⟨KB,0,none⟩=some (.int .i64 x.1)∧wx.cell? ⟨KB,1,none⟩=some (.int .i64 x.2.1)∧wx.cell? ⟨KB,2,none⟩=some (.string x.2.2)) w4.drew):=⟨aAa HV5.out,aAa HV5.out,aAa HV5.out,aAa HV5.out,aAa HV5.out,aAa HK5.out,aAa HK5.out,aAa HK5.out⟩
    refine wp_region_noPanic ?_
    refine wp_region_held_drew (S:=fun wx=>wx.cell? ⟨V,0,none⟩=some (.pointer (some ⟨db,0,none⟩))∧wx.cell? ⟨V,1,none⟩=some (.int .u8 (i:Int))∧wx.cell? ⟨V,2,none⟩=some (.string t.s.nm)∧wx.cell? ⟨V,3,none⟩=some (.slice ca t.s.cs.length cc)∧wx.cell? ⟨V,4,none⟩=some (.slice xa t.s.xs.length xc)∧wx.cell? ⟨KB,0,none⟩=some (.int .i64 x.1)∧wx.cell? ⟨KB,1,none⟩=some (.int .i64 x.2.1)∧wx.cell? ⟨KB,2,none⟩=some (.string x.2.2)) (by kernel_rfl) HX0.out (fun hHeld=>?_)
    generalize w4.drew=w5 at *
    refine wpAnyH_tk 0 31 ?_
    refine wpAnyH_tk 1 32 ?_
    refine aAl (i:=2) (j:=7) (by kernel_rfl) (by kernel_rfl) (by kernel_rfl) ?ya7 ?yb7
    case ya7 =>
     intro o ho K hK
     simp only [List.getElem?_toArray,List.getElem?_cons_succ,List.getElem?_cons_zero,oI] at ho
     subst ho
     go_simp
     refine (aFi x w5 HXO.out.1 HXE.out HXO.out.2).mono ?_
     rintro e w6 ⟨hv9,rfl,ho,hb⟩
     obtain ⟨ka,kd,ek⟩:=ho.form
     obtain ⟨km,hkm⟩:∃ km,x.bytes.length=km:=⟨_,rfl⟩
     rw [ek] at ho
     have hbs:=ho.bs (aBs x) (by have:=aA4 x HXO.out.2;omega)
     rw [hkm] at ek hbs
     subst ek
     have HKM:Hid (km≤10000000∧0<km):=by
      obtain ⟨h9,_,_,h8⟩:=aB3 [] HXO.out.1 HXE.out
      have:=List.length_pos_iff.2 h8
      have:=aA4 x HXO.out.2
      exact ⟨by omega,by omega⟩
     have HK6:=aAb ((hb.block KB (aAe HK5.out)).trans HK5.out)
     have HZ6:=aAb ((hb.block R (aAe HZ5.out)).trans HZ5.out)
     have HY6:=aAb ((hb.block R2 (aAe HY5.out)).trans HY5.out)
     have HB6:Hid (Below KB w w6):=HB5.out.trans (hb.mono (Nat.le_of_lt (aAe HK5.out)))
     have HV6:=aAb ((hb.block V (aAe HV5.out)).trans HV5.out)
     have HSC6:=aAb (HSC5.out.later hb)
     have HBX6:=aAb hbs
     clear ho hbs hkm hb hHeld
     refine hK.out _ _ ⟨aAa HV6.out,aAa HV6.out,aAa HV6.out,aAa HV6.out,aAa HV6.out,aAa HK6.out,aAa HK6.out,aAa HK6.out⟩ (fun hHeld=>?_)
     clear hK K
     try simp only [Act.put,siT,scZ,scS]
     refine aAl (i:=3) (j:=7) (by kernel_rfl) (by kernel_rfl) (by kernel_rfl) ?ya8 ?yb8
     case ya8 =>
      intro o ho K hK
      simp only [List.getElem?_toArray,List.getElem?_cons_succ,List.getElem?_cons_zero,oI] at ho
      subst ho
      go_simp
      refine (aFa (HD.out.later (w':=w6) (by rw [HKS.out];exact HB6.out)) HI.out HLN.out HTI.out HXO.out.1 HXE.out HSC6.out HBX6.out HKM.out.1 HKM.out.2).mono ?_
      rintro e w7 ⟨hg,hb⟩
      have hqq:=hg.gq
      rw [HGE.out] at hqq
      obtain ⟨fa,fn,fc,ga,gc,rfl,hgq⟩:=hqq
      have HK7:=aAb ((hb.block KB (aAe HK6.out)).trans HK6.out)
      have HZ7:=aAb ((hb.block R (aAe HZ6.out)).trans HZ6.out)
      have HY7:=aAb ((hb.block R2 (aAe HY6.out)).trans HY6.out)
      have HB7:Hid (Below KB w w7):=HB6.out.trans (hb.mono (Nat.le_of_lt (aAe HK6.out)))
      have HV7:=aAb ((hb.block V (aAe HV6.out)).trans HV6.out)
      have HSC7:=aAb (HSC6.out.later hb)
      have HGQ7:=aAb hgq
      clear hg hgq hb hHeld
      refine hK.out _ _ ⟨aAa HV7.out,aAa HV7.out,aAa HV7.out,aAa HV7.out,aAa HV7.out,aAa HK7.out,aAa HK7.out,aAa HK7.out⟩ (fun hHeld=>?_)
      clear hK K
      try simp only [Act.put,siT,scZ,scS]
      refine wpAnyH_tk 4 30 ?_
      refine wpAnyH_tk 5 35 ?_
      refine wpAnyH_tk 6 36 ?_
      refine wpAnyH_cm 7 ?_;intro K hK
      go_simp
      have hbx:=aAf w7 (.cells #[.slice none 0 0,.slice none 0 0] 92)
      have HK8:=aAb ((hbx.block KB (aAe HK7.out)).trans HK7.out)
      have HZ8:=aAb ((hbx.block R (aAe HZ7.out)).trans HZ7.out)
      have HY8:=aAb ((hbx.block R2 (aAe HY7.out)).trans HY7.out)
      have HB8:Hid (Below KB w (w7.alloc (.cells #[.slice none 0 0,.slice none 0 0] 92))):=HB7.out.trans (hbx.mono (Nat.le_of_lt (aAe HK7.out)))
      have HV8:=aAb ((hbx.block V (aAe HV7.out)).trans HV7.out)
      have HSC8:=aAb (HSC7.out.later hbx)
      have HQ8:Hid ((w7.alloc (.cells #[.slice none 0 0,.slice none 0 0] 92)).heap[w7.heap.size]?=some (.cells #[.slice none 0 0,.slice none 0 0] 92 (0,0))):=boxed w7 _
      skip
      have HGQ8:=aAb (HGQ7.out.later hbx)
      have HNE:Hid (KB<w7.heap.size∧R<w7.heap.size∧R2<w7.heap.size∧V<w7.heap.size):=⟨aAe HK7.out,aAe HZ7.out,aAe HY7.out,aAe HV7.out⟩
      clear hbx hHeld
      refine hK.out _ _ ⟨aAa HV8.out,aAa HV8.out,aAa HV8.out,aAa HV8.out,aAa HV8.out,aAa HK8.out,aAa HK8.out,aAa HK8.out⟩ (fun hHeld=>?_)
      generalize w7.alloc (.cells #[.slice none 0 0,.slice none 0 0] 92)=w8 at *
      generalize w7.heap.size=Q at *
      clear hK K
      try simp only [Act.put,siT,scZ,scS]
      refine wpAnyH_cm 8 ?_;intro K hK
      have z0:w8.cell? ⟨Q,0,none⟩=some (.slice none 0 0):=aAa HQ8.out
      have zf0:w8.frozen? ⟨Q,0,none⟩=false:=aAg HQ8.out
      have z1:w8.cell? ⟨Q,1,none⟩=some (.slice none 0 0):=aAa HQ8.out
      have zf1:w8.frozen? ⟨Q,1,none⟩=false:=aAg HQ8.out
      go_simp
      clear z0 zf0 z1 zf1 hHeld
      have HVZ:=aAb ((aBf (b0:=.slice fa fn fc) (b1:=.slice ga fn gc) (show V≠Q by have:=HNE.out;omega)).trans HV8.out)
      have HKZ:=aAb ((aBf (b0:=.slice fa fn fc) (b1:=.slice ga fn gc) (show KB≠Q by have:=HNE.out;omega)).trans HK8.out)
      have HZZ:=aAb ((aBf (b0:=.slice fa fn fc) (b1:=.slice ga fn gc) (show R≠Q by have:=HNE.out;omega)).trans HZ8.out)
      have HYZ:=aAb ((aBf (b0:=.slice fa fn fc) (b1:=.slice ga fn gc) (show R2≠Q by have:=HNE.out;omega)).trans HY8.out)
      have HBZ:=aAb (aCv (b0:=.slice fa fn fc) (b1:=.slice ga fn gc) HB8.out (show KB≤Q by have:=HNE.out;omega))
      have HQZ:=aAb (aF0 (b0:=.slice fa fn fc) (b1:=.slice ga fn gc) HQ8.out)
      have HSZ:=aAb (HSC8.out.oth (w':=((w8.setCell ⟨Q,0,none⟩ (.slice fa fn fc)).setCell ⟨Q,1,none⟩ (.slice ga fn gc))) HQ8.out aFg.1 (aCv (Below.refl 0 w8) (Nat.zero_le _)).size (fun _ hb=>aBf hb))
      have HGZ:=aAb (HGQ8.out.set2 (b0:=.slice fa fn fc) (b1:=.slice ga fn gc) HQ8.out)
      have HNZ:Hid (Q≠R∧Q≠R2):=by have:=HNE.out;exact ⟨by omega,by omega⟩
      refine hK.out _ _ ⟨aAa HVZ.out,aAa HVZ.out,aAa HVZ.out,aAa HVZ.out,aAa HVZ.out,aAa HKZ.out,aAa HKZ.out,aAa HKZ.out⟩ (fun hHeld=>?_)
      clear hK K
      try simp only [Act.put,siT,scZ,scS]
      refine wpAnyH_tk 9 10 ?_
      refine wpAnyH_done (by kernel_rfl) ?_ _
      refine NoPanic.normal ?_
      clear hHeld
      go_wp2
      go_meet
      exact ⟨rfl,Q,fa,fn,fc,ga,gc,rfl,HQZ.out,HGZ.out,HVZ.out,HZZ.out,HYZ.out,HBZ.out,HSZ.out,HNZ.out⟩
     case yb8 =>
      intro o ho K hK
      simp only [List.getElem?_toArray,List.getElem?_cons_succ,List.getElem?_cons_zero,oI] at ho
      subst ho
      go_simp
      have hbx:=aAf w6 (.cells #[.slice none 0 0,.slice none 0 0] 92)
      have HK7:=aAb ((hbx.block KB (aAe HK6.out)).trans HK6.out)
      have HZ7:=aAb ((hbx.block R (aAe HZ6.out)).trans HZ6.out)
      have HY7:=aAb ((hbx.block R2 (aAe HY6.out)).trans HY6.out)
      have HB7:Hid (Below KB w (w6.alloc (.cells #[.slice none 0 0,.slice none 0 0] 92))):=HB6.out.trans (hbx.mono (Nat.le_of_lt (aAe HK6.out)))
      have HV7:=aAb ((hbx.block V (aAe HV6.out)).trans HV6.out)
      have HSC7:=aAb (HSC6.out.later hbx)
      have HQ7:Hid ((w6.alloc (.cells #[.slice none 0 0,.slice none 0 0] 92)).heap[w6.heap.size]?=some (.cells #[.slice none 0 0,.slice none 0 0] 92 (0,0))):=boxed w6 _
      have HBX7:=aAb (HBX6.out.later hbx (nR _))
      skip
      have HNE:Hid (KB<w6.heap.size∧R<w6.heap.size∧R2<w6.heap.size∧V<w6.heap.size):=⟨aAe HK6.out,aAe HZ6.out,aAe HY6.out,aAe HV6.out⟩
      clear hbx hHeld
      refine hK.out _ _ ⟨aAa HV7.out,aAa HV7.out,aAa HV7.out,aAa HV7.out,aAa HV7.out,aAa HK7.out,aAa HK7.out,aAa HK7.out⟩ (fun hHeld=>?_)
      generalize w6.alloc (.cells #[.slice none 0 0,.slice none 0 0] 92)=w7 at *
      generalize w6.heap.size=Q at *
      clear hK K
      try simp only [Act.put,siT,scZ,scS]
      refine wpAnyH_cm 3 ?_;intro K hK
      go_simp
      refine (aFa (HD.out.later (w':=w7) (by rw [HKS.out];exact HB7.out)) HI.out HLN.out HTI.out HXO.out.1 HXE.out HSC7.out HBX7.out HKM.out.1 HKM.out.2).mono ?_
      rintro e w8 ⟨hg,hb⟩
      have hqq:=hg.gq
      rw [HGE.out] at hqq
      obtain ⟨fa,fn,fc,ga,gc,rfl,hgq⟩:=hqq
      have HK8:=aAb ((hb.block KB (aAe HK7.out)).trans HK7.out)
      have HZ8:=aAb ((hb.block R (aAe HZ7.out)).trans HZ7.out)
      have HY8:=aAb ((hb.block R2 (aAe HY7.out)).trans HY7.out)
      have HB8:Hid (Below KB w w8):=HB7.out.trans (hb.mono (Nat.le_of_lt (aAe HK7.out)))
      have HV8:=aAb ((hb.block V (aAe HV7.out)).trans HV7.out)
      have HSC8:=aAb (HSC7.out.later hb)
      have HQ8:=aAb ((hb.block Q (aAe HQ7.out)).trans HQ7.out)
      have HGQ8:=aAb hgq
      clear hg hgq hb hHeld
      refine hK.out _ _ ⟨aAa HV8.out,aAa HV8.out,aAa HV8.out,aAa HV8.out,aAa HV8.out,aAa HK8.out,aAa HK8.out,aAa HK8.out⟩ (fun hHeld=>?_)
      clear hK K
      try simp only [Act.put,siT,scZ,scS]
      refine wpAnyH_tk 4 30 ?_
      refine wpAnyH_tk 5 35 ?_
      refine wpAnyH_tk 6 36 ?_
      refine wpAnyH_cm 8 ?_;intro K hK
      have z0:w8.cell? ⟨Q,0,none⟩=some (.slice none 0 0):=aAa HQ8.out
      have zf0:w8.frozen? ⟨Q,0,none⟩=false:=aAg HQ8.out
      have z1:w8.cell? ⟨Q,1,none⟩=some (.slice none 0 0):=aAa HQ8.out
      have zf1:w8.frozen? ⟨Q,1,none⟩=false:=aAg HQ8.out
      go_simp
      clear z0 zf0 z1 zf1 hHeld
      have HVZ:=aAb ((aBf (b0:=.slice fa fn fc) (b1:=.slice ga fn gc) (show V≠Q by have:=HNE.out;omega)).trans HV8.out)
      have HKZ:=aAb ((aBf (b0:=.slice fa fn fc) (b1:=.slice ga fn gc) (show KB≠Q by have:=HNE.out;omega)).trans HK8.out)
      have HZZ:=aAb ((aBf (b0:=.slice fa fn fc) (b1:=.slice ga fn gc) (show R≠Q by have:=HNE.out;omega)).trans HZ8.out)
      have HYZ:=aAb ((aBf (b0:=.slice fa fn fc) (b1:=.slice ga fn gc) (show R2≠Q by have:=HNE.out;omega)).trans HY8.out)
      have HBZ:=aAb (aCv (b0:=.slice fa fn fc) (b1:=.slice ga fn gc) HB8.out (show KB≤Q by have:=HNE.out;omega))
      have HQZ:=aAb (aF0 (b0:=.slice fa fn fc) (b1:=.slice ga fn gc) HQ8.out)
      have HSZ:=aAb (HSC8.out.oth (w':=((w8.setCell ⟨Q,0,none⟩ (.slice fa fn fc)).setCell ⟨Q,1,none⟩ (.slice ga fn gc))) HQ8.out aFg.1 (aCv (Below.refl 0 w8) (Nat.zero_le _)).size (fun _ hb=>aBf hb))
      have HGZ:=aAb (HGQ8.out.set2 (b0:=.slice fa fn fc) (b1:=.slice ga fn gc) HQ8.out)
      have HNZ:Hid (Q≠R∧Q≠R2):=by have:=HNE.out;exact ⟨by omega,by omega⟩
      refine hK.out _ _ ⟨aAa HVZ.out,aAa HVZ.out,aAa HVZ.out,aAa HVZ.out,aAa HVZ.out,aAa HKZ.out,aAa HKZ.out,aAa HKZ.out⟩ (fun hHeld=>?_)
      clear hK K
      try simp only [Act.put,siT,scZ,scS]
      refine wpAnyH_tk 9 10 ?_
      refine wpAnyH_done (by kernel_rfl) ?_ _
      refine NoPanic.normal ?_
      clear hHeld
      go_wp2
      go_meet
      exact ⟨rfl,Q,fa,fn,fc,ga,gc,rfl,HQZ.out,HGZ.out,HVZ.out,HZZ.out,HYZ.out,HBZ.out,HSZ.out,HNZ.out⟩
    case yb7 =>
     intro o ho K hK
     simp only [List.getElem?_toArray,List.getElem?_cons_succ,List.getElem?_cons_zero,oI] at ho
     subst ho
     go_simp
     have hbx:=aAf w5 (.cells #[.slice none 0 0,.slice none 0 0] 92)
     have HK6:=aAb ((hbx.block KB (aAe HK5.out)).trans HK5.out)
     have HZ6:=aAb ((hbx.block R (aAe HZ5.out)).trans HZ5.out)
     have HY6:=aAb ((hbx.block R2 (aAe HY5.out)).trans HY5.out)
     have HB6:Hid (Below KB w (w5.alloc (.cells #[.slice none 0 0,.slice none 0 0] 92))):=HB5.out.trans (hbx.mono (Nat.le_of_lt (aAe HK5.out)))
     have HV6:=aAb ((hbx.block V (aAe HV5.out)).trans HV5.out)
     have HSC6:=aAb (HSC5.out.later hbx)
     have HQ6:Hid ((w5.alloc (.cells #[.slice none 0 0,.slice none 0 0] 92)).heap[w5.heap.size]?=some (.cells #[.slice none 0 0,.slice none 0 0] 92 (0,0))):=boxed w5 _
     skip
     skip
     have HNE:Hid (KB<w5.heap.size∧R<w5.heap.size∧R2<w5.heap.size∧V<w5.heap.size):=⟨aAe HK5.out,aAe HZ5.out,aAe HY5.out,aAe HV5.out⟩
     clear hbx hHeld
     refine hK.out _ _ ⟨aAa HV6.out,aAa HV6.out,aAa HV6.out,aAa HV6.out,aAa HV6.out,aAa HK6.out,aAa HK6.out,aAa HK6.out⟩ (fun hHeld=>?_)
     generalize w5.alloc (.cells #[.slice none 0 0,.slice none 0 0] 92)=w6 at *
     generalize w5.heap.size=Q at *
     clear hK K
     try simp only [Act.put,siT,scZ,scS]
     refine wpAnyH_cm 2 ?_;intro K hK
     go_simp
     refine (aFi x w6 HXO.out.1 HXE.out HXO.out.2).mono ?_
     rintro e w7 ⟨hv9,rfl,ho,hb⟩
     obtain ⟨ka,kd,ek⟩:=ho.form
     obtain ⟨km,hkm⟩:∃ km,x.bytes.length=km:=⟨_,rfl⟩
     rw [ek] at ho
     have hbs:=ho.bs (aBs x) (by have:=aA4 x HXO.out.2;omega)
     rw [hkm] at ek hbs
     subst ek
     have HKM:Hid (km≤10000000∧0<km):=by
      obtain ⟨h9,_,_,h8⟩:=aB3 [] HXO.out.1 HXE.out
      have:=List.length_pos_iff.2 h8
      have:=aA4 x HXO.out.2
      exact ⟨by omega,by omega⟩
     have HK7:=aAb ((hb.block KB (aAe HK6.out)).trans HK6.out)
     have HZ7:=aAb ((hb.block R (aAe HZ6.out)).trans HZ6.out)
     have HY7:=aAb ((hb.block R2 (aAe HY6.out)).trans HY6.out)
     have HB7:Hid (Below KB w w7):=HB6.out.trans (hb.mono (Nat.le_of_lt (aAe HK6.out)))
     have HV7:=aAb ((hb.block V (aAe HV6.out)).trans HV6.out)
     have HSC7:=aAb (HSC6.out.later hb)
     have HQ7:=aAb ((hb.block Q (aAe HQ6.out)).trans HQ6.out)
     have HBX7:=aAb hbs
     clear ho hbs hkm hb hHeld
     refine hK.out _ _ ⟨aAa HV7.out,aAa HV7.out,aAa HV7.out,aAa HV7.out,aAa HV7.out,aAa HK7.out,aAa HK7.out,aAa HK7.out⟩ (fun hHeld=>?_)
     clear hK K
     try simp only [Act.put,siT,scZ,scS]
     refine wpAnyH_cm 3 ?_;intro K hK
     go_simp
     refine (aFa (HD.out.later (w':=w7) (by rw [HKS.out];exact HB7.out)) HI.out HLN.out HTI.out HXO.out.1 HXE.out HSC7.out HBX7.out HKM.out.1 HKM.out.2).mono ?_
     rintro e w8 ⟨hg,hb⟩
     have hqq:=hg.gq
     rw [HGE.out] at hqq
     obtain ⟨fa,fn,fc,ga,gc,rfl,hgq⟩:=hqq
     have HK8:=aAb ((hb.block KB (aAe HK7.out)).trans HK7.out)
     have HZ8:=aAb ((hb.block R (aAe HZ7.out)).trans HZ7.out)
     have HY8:=aAb ((hb.block R2 (aAe HY7.out)).trans HY7.out)
     have HB8:Hid (Below KB w w8):=HB7.out.trans (hb.mono (Nat.le_of_lt (aAe HK7.out)))
     have HV8:=aAb ((hb.block V (aAe HV7.out)).trans HV7.out)
     have HSC8:=aAb (HSC7.out.later hb)
     have HQ8:=aAb ((hb.block Q (aAe HQ7.out)).trans HQ7.out)
     have HGQ8:=aAb hgq
     clear hg hgq hb hHeld
     refine hK.out _ _ ⟨aAa HV8.out,aAa HV8.out,aAa HV8.out,aAa HV8.out,aAa HV8.out,aAa HK8.out,aAa HK8.out,aAa HK8.out⟩ (fun hHeld=>?_)
     clear hK K
     try simp only [Act.put,siT,scZ,scS]
     refine wpAnyH_tk 4 30 ?_
     refine wpAnyH_tk 5 35 ?_
     refine wpAnyH_tk 6 36 ?_
     refine wpAnyH_cm 8 ?_;intro K hK
     have z0:w8.cell? ⟨Q,0,none⟩=some (.slice none 0 0):=aAa HQ8.out
     have zf0:w8.frozen? ⟨Q,0,none⟩=false:=aAg HQ8.out
     have z1:w8.cell? ⟨Q,1,none⟩=some (.slice none 0 0):=aAa HQ8.out
     have zf1:w8.frozen? ⟨Q,1,none⟩=false:=aAg HQ8.out
     go_simp
     clear z0 zf0 z1 zf1 hHeld
     have HVZ:=aAb ((aBf (b0:=.slice fa fn fc) (b1:=.slice ga fn gc) (show V≠Q by have:=HNE.out;omega)).trans HV8.out)
     have HKZ:=aAb ((aBf (b0:=.slice fa fn fc) (b1:=.slice ga fn gc) (show KB≠Q by have:=HNE.out;omega)).trans HK8.out)
     have HZZ:=aAb ((aBf (b0:=.slice fa fn fc) (b1:=.slice ga fn gc) (show R≠Q by have:=HNE.out;omega)).trans HZ8.out)
     have HYZ:=aAb ((aBf (b0:=.slice fa fn fc) (b1:=.slice ga fn gc) (show R2≠Q by have:=HNE.out;omega)).trans HY8.out)
     have HBZ:=aAb (aCv (b0:=.slice fa fn fc) (b1:=.slice ga fn gc) HB8.out (show KB≤Q by have:=HNE.out;omega))
     have HQZ:=aAb (aF0 (b0:=.slice fa fn fc) (b1:=.slice ga fn gc) HQ8.out)
     have HSZ:=aAb (HSC8.out.oth (w':=((w8.setCell ⟨Q,0,none⟩ (.slice fa fn fc)).setCell ⟨Q,1,none⟩ (.slice ga fn gc))) HQ8.out aFg.1 (aCv (Below.refl 0 w8) (Nat.zero_le _)).size (fun _ hb=>aBf hb))
     have HGZ:=aAb (HGQ8.out.set2 (b0:=.slice fa fn fc) (b1:=.slice ga fn gc) HQ8.out)
     have HNZ:Hid (Q≠R∧Q≠R2):=by have:=HNE.out;exact ⟨by omega,by omega⟩
     refine hK.out _ _ ⟨aAa HVZ.out,aAa HVZ.out,aAa HVZ.out,aAa HVZ.out,aAa HVZ.out,aAa HKZ.out,aAa HKZ.out,aAa HKZ.out⟩ (fun hHeld=>?_)
     clear hK K
     try simp only [Act.put,siT,scZ,scS]
     refine wpAnyH_tk 9 10 ?_
     refine wpAnyH_done (by kernel_rfl) ?_ _
     refine NoPanic.normal ?_
     clear hHeld
     go_wp2
     go_meet
     exact ⟨rfl,Q,fa,fn,fc,ga,gc,rfl,HQZ.out,HGZ.out,HVZ.out,HZZ.out,HYZ.out,HBZ.out,HSZ.out,HNZ.out⟩
   case rest =>
    obtain ⟨rfl,Q,fa,fn,fc,ga,gc,rfl,c1,c2,c3,c4,c5,c6,c7,c8⟩:=hcut
    have HQ6:Hid (wc.drew.heap[Q]?=some (.cells #[.slice fa fn fc,.slice ga fn gc] 92 (0,0))):=c1
    have HG6:Hid (GQ t x fa fn fc ga gc wc.drew):=c2.later (Below.refl _ _).drew
    have HV6:Hid (wc.drew.heap[V]?=some (.cells #[.pointer (some ⟨db,0,none⟩),.int .u8 (i:Int),.string t.s.nm,.slice ca t.s.cs.length cc,.slice xa t.s.xs.length xc] 86 (0,0))):=c3
    have HZ6:Hid (wc.drew.heap[R]?=some (.cells #[.pointer none,.int .u8 0,.string ⟨#[]⟩,.slice none 0 0,.slice none 0 0] 86 (0,0))):=c4
    have HY6:Hid (wc.drew.heap[R2]?=some (.cells #[.slice none 0 0,.slice none 0 0] 92 (0,0))):=c5
    have HB6:Hid (Below KB w wc.drew):=c6.drew
    have HSC6:Hid (SC wc.drew ca t.s.cs.length cc xa t.s.xs.length xc t.s):=c7.later (Below.refl _ _).drew
    have HNQ:=aAb c8
    clear c1 c2 c3 c4 c5 c6 c7 c8
    go_upto_region 7 with fail
    have HX7:Hid ((fun wx:World=>wx.cell? ⟨V,0,none⟩=some (.pointer (some ⟨db,0,none⟩))∧wx.cell? ⟨V,1,none⟩=some (.int .u8 (i:Int))∧wx.cell? ⟨V,2,none⟩=some (.string t.s.nm)∧wx.cell? ⟨V,3,none⟩=some (.slice ca t.s.cs.length cc)∧wx.cell? ⟨V,4,none⟩=some (.slice xa t.s.xs.length xc)∧wx.cell? ⟨Q,0,none⟩=some (.slice fa fn fc)∧wx.cell? ⟨Q,1,none⟩=some (.slice ga fn gc)) wc.drew):=⟨aAa HV6.out,aAa HV6.out,aAa HV6.out,aAa HV6.out,aAa HV6.out,aAa HQ6.out,aAa HQ6.out⟩
    refine wp_region_noPanic ?_
    refine wp_region_held_drew (S:=fun wx=>wx.cell? ⟨V,0,none⟩=some (.pointer (some ⟨db,0,none⟩))∧wx.cell? ⟨V,1,none⟩=some (.int .u8 (i:Int))∧wx.cell? ⟨V,2,none⟩=some (.string t.s.nm)∧wx.cell? ⟨V,3,none⟩=some (.slice ca t.s.cs.length cc)∧wx.cell? ⟨V,4,none⟩=some (.slice xa t.s.xs.length xc)∧wx.cell? ⟨Q,0,none⟩=some (.slice fa fn fc)∧wx.cell? ⟨Q,1,none⟩=some (.slice ga fn gc)) (by kernel_rfl) HX7.out (fun hHeld=>?_)
    generalize wc.drew=w6 at *
    refine wpAnyH_tk 0 37 ?_
    refine wpAnyH_tk 1 38 ?_
    refine wpAnyH_tk 2 39 ?_
    refine wpAnyH_cm 3 ?_;intro K hK
    have t0:w6.cell? ⟨R,0,none⟩=some (.pointer none):=aAa HZ6.out
    have tf0:w6.frozen? ⟨R,0,none⟩=false:=aAg HZ6.out
    have t1:w6.cell? ⟨R,1,none⟩=some (.int .u8 0):=aAa HZ6.out
    have tf1:w6.frozen? ⟨R,1,none⟩=false:=aAg HZ6.out
    have t2:w6.cell? ⟨R,2,none⟩=some (.string ⟨#[]⟩):=aAa HZ6.out
    have tf2:w6.frozen? ⟨R,2,none⟩=false:=aAg HZ6.out
    have t3:w6.cell? ⟨R,3,none⟩=some (.slice none 0 0):=aAa HZ6.out
    have tf3:w6.frozen? ⟨R,3,none⟩=false:=aAg HZ6.out
    have t4:w6.cell? ⟨R,4,none⟩=some (.slice none 0 0):=aAa HZ6.out
    have tf4:w6.frozen? ⟨R,4,none⟩=false:=aAg HZ6.out
    go_simp
    clear t0 tf0 t1 tf1 t2 tf2 t3 tf3 t4 tf4 hHeld
    have HV7:=aAb ((aDh (b0:=.pointer (some ⟨db,0,none⟩)) (b1:=.int .u8 (i:Int)) (b2:=.string t.s.nm) (b3:=.slice ca t.s.cs.length cc) (b4:=.slice xa t.s.xs.length xc) (show V≠R by have:=HVN.out;omega)).trans HV6.out)
    have HQ7:=aAb ((aDh (b0:=.pointer (some ⟨db,0,none⟩)) (b1:=.int .u8 (i:Int)) (b2:=.string t.s.nm) (b3:=.slice ca t.s.cs.length cc) (b4:=.slice xa t.s.xs.length xc) HNQ.out.1).trans HQ6.out)
    have HZ7:=aAb (aIj (b0:=.pointer (some ⟨db,0,none⟩)) (b1:=.int .u8 (i:Int)) (b2:=.string t.s.nm) (b3:=.slice ca t.s.cs.length cc) (b4:=.slice xa t.s.xs.length xc) HZ6.out)
    have HY7:=aAb ((aDh (b0:=.pointer (some ⟨db,0,none⟩)) (b1:=.int .u8 (i:Int)) (b2:=.string t.s.nm) (b3:=.slice ca t.s.cs.length cc) (b4:=.slice xa t.s.xs.length xc) (show R2≠R by have:=HRR.out;omega)).trans HY6.out)
    have HB7:=aAb (aGp (b0:=.pointer (some ⟨db,0,none⟩)) (b1:=.int .u8 (i:Int)) (b2:=.string t.s.nm) (b3:=.slice ca t.s.cs.length cc) (b4:=.slice xa t.s.xs.length xc) HB6.out (show KB≤R by have:=HRR.out;omega))
    have HSC7:=aAb (HSC6.out.oth (w':=(((((w6.setCell ⟨R,0,none⟩ (.pointer (some ⟨db,0,none⟩))).setCell ⟨R,1,none⟩ (.int .u8 (i:Int))).setCell ⟨R,2,none⟩ (.string t.s.nm)).setCell ⟨R,3,none⟩ (.slice ca t.s.cs.length cc)).setCell ⟨R,4,none⟩ (.slice xa t.s.xs.length xc))) HZ6.out noV_tab.1 set5S (fun _ hb=>aDh hb))
    have HG7:=aAb (HG6.out.set5 (b0:=.pointer (some ⟨db,0,none⟩)) (b1:=.int .u8 (i:Int)) (b2:=.string t.s.nm) (b3:=.slice ca t.s.cs.length cc) (b4:=.slice xa t.s.xs.length xc) HZ6.out)
    refine hK.out _ _ ⟨aAa HV7.out,aAa HV7.out,aAa HV7.out,aAa HV7.out,aAa HV7.out,aAa HQ7.out,aAa HQ7.out⟩ (fun hHeld=>?_)
    generalize (((((w6.setCell ⟨R,0,none⟩ (.pointer (some ⟨db,0,none⟩))).setCell ⟨R,1,none⟩ (.int .u8 (i:Int))).setCell ⟨R,2,none⟩ (.string t.s.nm)).setCell ⟨R,3,none⟩ (.slice ca t.s.cs.length cc)).setCell ⟨R,4,none⟩ (.slice xa t.s.xs.length xc))=w7 at *
    clear hK K
    try simp only [Act.put,siT,scZ,scS]
    refine wpAnyH_cm 4 ?_;intro K hK
    have r0:w7.cell? ⟨R2,0,none⟩=some (.slice none 0 0):=aAa HY7.out
    have rf0:w7.frozen? ⟨R2,0,none⟩=false:=aAg HY7.out
    have r1:w7.cell? ⟨R2,1,none⟩=some (.slice none 0 0):=aAa HY7.out
    have rf1:w7.frozen? ⟨R2,1,none⟩=false:=aAg HY7.out
    go_simp
    clear r0 rf0 r1 rf1 hHeld
    have HV8:=aAb ((aBf (b0:=.slice fa fn fc) (b1:=.slice ga fn gc) (show V≠R2 by have:=HVN.out;omega)).trans HV7.out)
    have HQ8:=aAb ((aBf (b0:=.slice fa fn fc) (b1:=.slice ga fn gc) HNQ.out.2).trans HQ7.out)
    refine hK.out _ _ ⟨aAa HV8.out,aAa HV8.out,aAa HV8.out,aAa HV8.out,aAa HV8.out,aAa HQ8.out,aAa HQ8.out⟩ (fun hHeld=>?_)
    clear hK K
    try simp only [Act.put,siT,scZ,scS]
    refine wpAnyH_tk 5 8 ?_
    refine wpAnyH_done (by kernel_rfl) ?_ _
    refine NoPanic.normal ?_
    clear hHeld
    go_wp2
    (try simp only [Exit.inBlock,Exit.then])
    refine bodyPost_ret (aBl Tryz.results41 _ _ R R2 _ _ _ _ _ _ _ _ _ _ _ rfl rfl ((aBf (show R≠R2 by have:=HRR.out;omega)).trans HZ7.out) (aF0 HY7.out)) rfl ?_
    refine ⟨⟨(fun q=>nomatch (HTA.out.symm.trans q)),fun i2 t2 q1 q2=>?_⟩,aCv HB7.out (show KB≤R2 by have:=HRR.out;omega)⟩
    have e1:=HTA.out.symm.trans q1
    simp only [oI] at e1
    subst e1
    have e2:=HTI.out.symm.trans q2
    simp only [oI] at e2
    subst e2
    refine ⟨fun q=>absurd HXE.out q,fun _=>⟨ca,cc,xa,xc,fa,fn,fc,ga,gc,by rw [HGE.out];rfl,HSC7.out.oth HY7.out aFg.1 (aCv (Below.refl 0 w7) (Nat.zero_le _)).size (fun _ hb=>aBf hb),HG7.out.set2 HY7.out⟩⟩
  ·have hf1:(fv == 0)=false:=by simpa using hf0
   have hf2:(fv != 0)=true:=by simpa using hf0
   have HF0:=aAb hf0
   have t0:w4.cell? ⟨R,0,none⟩=some (.pointer none):=aAa HZ4.out
   have tf0:w4.frozen? ⟨R,0,none⟩=false:=aAg HZ4.out
   have t1:w4.cell? ⟨R,1,none⟩=some (.int .u8 0):=aAa HZ4.out
   have tf1:w4.frozen? ⟨R,1,none⟩=false:=aAg HZ4.out
   have t2:w4.cell? ⟨R,2,none⟩=some (.string ⟨#[]⟩):=aAa HZ4.out
   have tf2:w4.frozen? ⟨R,2,none⟩=false:=aAg HZ4.out
   have t3:w4.cell? ⟨R,3,none⟩=some (.slice none 0 0):=aAa HZ4.out
   have tf3:w4.frozen? ⟨R,3,none⟩=false:=aAg HZ4.out
   have t4:w4.cell? ⟨R,4,none⟩=some (.slice none 0 0):=aAa HZ4.out
   have tf4:w4.frozen? ⟨R,4,none⟩=false:=aAg HZ4.out
   have r0:w4.cell? ⟨R2,0,none⟩=some (.slice none 0 0):=aAa HY4.out
   have rf0:w4.frozen? ⟨R2,0,none⟩=false:=aAg HY4.out
   have r1:w4.cell? ⟨R2,1,none⟩=some (.slice none 0 0):=aAa HY4.out
   have rf1:w4.frozen? ⟨R2,1,none⟩=false:=aAg HY4.out
   go_wp2
   (try simp only [Exit.inBlock,Exit.then])
   refine bodyPost_ret (aBl Tryz.results41 _ _ R R2 _ _ _ _ _ _ _ _ _ _ _ rfl rfl ((aBf (show R≠R2 by have:=HRR.out;omega)).trans (aIj HZ4.out)) (aF0 ((aDh (show R2≠R by have:=HRR.out;omega)).trans HY4.out))) rfl ?_
   refine ⟨⟨(fun q=>nomatch (HTA.out.symm.trans q)),fun i2 t2 q1 q2=>?_⟩,aCv (aGp HB4.out (show KB≤R by have:=HRR.out;omega)) (show KB≤R2 by have:=HRR.out;omega)⟩
   have e1:=HTA.out.symm.trans q1
   simp only [oI] at e1
   subst e1
   have e2:=HTI.out.symm.trans q2
   simp only [oI] at e2
   subst e2
   exact ⟨fun _=>rfl,fun q=>absurd (HFV.out.symm.trans q) HF0.out⟩
def OpR [Gd] (B p q g ls db:Nat) (v:Value) (cs:List Ch) (W w0 w:World) (o:Out) (e:Ending) (w':World):Prop :=
 ∃ v',e=.returned (.int .i64 o.e)∧DR B p q g ls db v' (cs++o.m) W w0 w'∧DFr B db v w v' w'
theorem OpR.no [Gd] {B p q g ls db:Nat} {v:Value} {cs:List Ch} {W w0 w w':World} {T:List Tbl} {e:Int} (h:DR B p q g ls db v cs W w0 w) (hb:Below w.heap.size w w'):OpR B p q g ls db v cs W w0 w ⟨T,[],e⟩ (.returned (.int .i64 e)) w' :=
 ⟨v,rfl,by rw [List.append_nil];exact h.later hb,DFr.of hb h.bw⟩
theorem chL_laid (i:Nat) (s:Sch) (r:List Val):(chL (keysR i s r) (rowB r) false).map mkC=laidR i s r:=by
 unfold chL laidR
 rw [List.map_map]
 rfl
theorem chL_gone (i:Nat) (s:Sch) (r:List Val):(chL (keysR i s r) (rowB r) true).map mkC=goneR i s r:=by
 unfold chL goneR
 rw [List.map_map]
 rfl
theorem chL_len (ks:List (List Nat)) (b:List Nat) (g:Bool):(chL ks b g).length=ks.length:=by unfold chL;rw [List.length_map]
theorem keysR_len (i:Nat) {s:Sch} (r:List Val) (hs:s.ok=true):(keysR i s r).length≤4:=by
 have:=(Sch.parts hs).2.2.1
 unfold keysR
 rw [List.length_cons,List.length_map]
 omega
theorem key_pos {i:Nat} {s:Sch} {r:List Val} {k:List Nat} (h:k∈keysR i s r):0<k.length:=by
 rcases List.mem_cons.1 h with rfl | h
 ·unfold rk;simp
 ·obtain ⟨x,_,rfl⟩:=List.mem_map.1 h
  unfold xk;simp
theorem chL_ref {i:Nat} {s:Sch} {r:List Val} {g:Bool} (hs:s.ok=true) (hr:RowOk s r):∀ c∈chL (keysR i s r) (rowB r) g,refE c.sp c.key.length c.val.length=0:=by
 intro c hc
 unfold chL at hc
 obtain ⟨k,hk,rfl⟩:=List.mem_map.1 hc
 have h1:=key_len hs hr hk
 have h2:=key_pos hk
 have h3:=aIo hr.rE
 unfold refE
 dsimp only
 rw [if_neg (by omega),if_neg (by omega)]
theorem aGy {B B1 db ls:Nat} {v vl:Value} {cs F:List Ch} {w0 w:World} (h:DD B db ls v cs w) (h0:DD B db ls v cs w0) (hB1:B1=w0.heap.size) (hF:CRW B B1 w vl F) (hl:cs.length+F.length≤1000) (hr:∀ c∈F,refE c.sp c.key.length c.val.length=0) :
  ∃ a c,vl=.slice a F.length c∧Calls Tryz.prog 39 #[.pointer (some ⟨db,0,none⟩),.slice a F.length c] w fun e w'=>∃ v',e=.returned (.int .i64 0)∧DD B db ls v' (cs++F.map mkC) w'∧DFr B db v w v' w':=by
 obtain ⟨a,c,e⟩:=hF.form
 subst e
 refine ⟨a,c,rfl,makeAll_ok h hF rfl (fun i hi=>?_) hl hr⟩
 have h1:=(hF.blk hi).1
 refine ⟨fun q=>?_,?_⟩
 ·have:=(h0.row.blk q).2.1;omega
 ·have:=h0.bw;omega
theorem insO_some {T:List Tbl} {nm:ByteArray} {r:List Val} {i:Nat} {t:Tbl} (h1:tAt T nm=some i) (h2:T[i]?=some t):insO T nm r=if t.s.fits r≠0 then ⟨T,[],t.s.fits r⟩ else if addE t r≠0 then ⟨T,[],addE t r⟩ else ⟨setT T i t (insV r t.rows),laidR i t.s r,0⟩:=by
 unfold insO
 rw [h1]
 dsimp only
 rw [h2]
 dsimp only
 split
 ·rfl
 ·unfold addE
  cases hra:(rowAt t.rows (fst r)).isSome with
  | true=>simp
  | false =>
   by_cases hl:64≤t.rows.length
   ·simp [hl]
   ·cases hc:clash t.s t.rows r with
    | true=>simp [hl]
    | false=>simp [hl]
theorem insO_none {T:List Tbl} {nm:ByteArray} {r:List Val} (h1:tAt T nm=none):insO T nm r=⟨T,[],60⟩:=by unfold insO;rw [h1]
theorem aCi [Gd] {B p q g ls db:Nat} {v:Value} {cs:List Ch} {W w0 w:World} {T:List Tbl} {r:List Val} {pa:Option Addr} {pc n:Nat} (h:DR B p q g ls db v cs W w0 w) (I:Inv cs T) (hl:cs.length≤990) (nm:ByteArray) (hp:SVK fV 3 w pa n pc r) (hok:∀ x∈r,x.ok∧x.2.2.size≤1048576) :
  Calls Tryz.prog 11 #[.pointer (some ⟨db,0,none⟩),.string nm,.slice pa n pc] w fun e w'=>OpR B p q g ls db v cs W w0 w (insO T nm r) e w':=by
 have HD:=aAb h
 have HI:=aAb I
 have HLN:Hid (cs.length≤1000):=by show _≤_;omega
 have HLM:=aAb hl
 have HNL:=aAb hp.hl
 have HFI:=aAb (fitting_ok h I (by omega) nm hp hok)
 clear h I hl hp
 have HOKS:=aAb hok
 clear hok
 go_enter Tryz.func11,Tryz.ntmps11
 go_wp2_with fail
 refine HFI.out.mono ?_
 rintro e w2 ⟨hfi,hb2⟩
 have HB2:=aAb hb2
 have HFR:=aAb hfi
 clear hfi hb2 HFI
 cases hta:tAt T nm with
 | none =>
  have he:=HFR.out.1 hta
  unfold zT zR at he
  subst he
  have HTA:=aAb hta
  have hbx:=(aAf w2 (.cells #[.pointer none,.int .u8 0,.string ⟨#[]⟩,.slice none 0 0,.slice none 0 0] 86)).trans ((aAf (w2.alloc (.cells #[.pointer none,.int .u8 0,.string ⟨#[]⟩,.slice none 0 0,.slice none 0 0] 86)) (.cells #[.slice none 0 0,.slice none 0 0] 92)).mono (aAf w2 _).size)
  have HB3:=aAb (HB2.out.trans (hbx.mono HB2.out.size))
  clear hbx hta HFR
  go_wp2
  go_ret
  rw [insO_none HTA.out]
  exact OpR.no HD.out HB3.out
 | some i =>
  obtain ⟨t,hti,htn,htm⟩:=aBq hta
  subst htn
  have hft:=HFR.out.2 i t hta hti
  have HTA:=aAb hta
  have HTI:=aAb hti
  have HOK:=aAb (HI.out.ok t htm)
  have HIO:=aAb (insO_some (r:=r) hta hti)
  clear hta hti htm HFR
  by_cases hf0:t.s.fits r=0
  ·obtain ⟨ca,cc,xa,xc,va,vc,he,hsc,hrh⟩:=hft.2 hf0
   unfold tblV at he
   subst he
   have HRO:Hid (RowOk t.s r):=fits_ok HOK.out (fun x hx=>(HOKS.out x hx).1) hf0
   have HF0:=aAb hf0
   have hx0:TRX w2.heap.size (w2.heap.size+1) (.pointer (some ⟨db,0,none⟩)) i t.s.nm ca t.s.cs.length cc xa t.s.xs.length xc (.slice pa r.length pc) va r.length vc w2 ((w2.alloc (.cells #[.pointer (some ⟨db,0,none⟩),.int .u8 (i:Int),.string t.s.nm,.slice ca t.s.cs.length cc,.slice xa t.s.xs.length xc] 86)).alloc (.cells #[.slice pa r.length pc,.slice va r.length vc] 92)):=TRX.new w2
   have HX3:=aAb hx0
   have HSC3:=aAb (hsc.later hx0.be)
   have HRH3:=aAb (hrh.later hx0.be)
   have HB3:=aAb (HB2.out.trans (hx0.be.mono HB2.out.size))
   have HD3:=aAb (HD.out.later HB3.out)
   clear hft hf0 hsc hrh hx0
   go_upto_region 2 with fail
   generalize (w2.alloc (.cells #[.pointer (some ⟨db,0,none⟩),.int .u8 (i:Int),.string t.s.nm,.slice ca t.s.cs.length cc,.slice xa t.s.xs.length xc] 86)).alloc (.cells #[.slice pa r.length pc,.slice va r.length vc] 92)=w3 at *
   generalize w2.heap.size=L at *
   have HMA:=aAb (mayAdd_ok HD3.out HI.out HLN.out HTI.out HRO.out HSC3.out HRH3.out)
   obtain ⟨av,hav⟩:∃ av,addE t r=av:=⟨_,rfl⟩
   have HAV:=aAb hav
   rw [hav] at HMA
   obtain ⟨y0,y1,y2,y3,y4,m0,m1⟩:=HX3.out.sm
   clear hav
   go_wp2_with fail
   refine HMA.out.mono ?_
   rintro e w4 ⟨rfl,hb4⟩
   have HX4:=aAb (HX3.out.next hb4)
   have HSC4:=aAb (HSC3.out.later hb4)
   have HRH4:=aAb (HRH3.out.later hb4)
   have HB4:=aAb (HB3.out.trans (hb4.mono HB3.out.size))
   have HD4:=aAb (HD3.out.later hb4)
   clear hb4 HMA y0 y1 y2 y3 y4 m0 m1 HX3 HSC3 HRH3 HB3 HD3
   by_cases ha0:av=0
   ·have HCH:=aAb (aHm (dv:=.pointer (some ⟨db,0,none⟩)) (nm:=t.s.nm) (ca:=ca) (cl:=t.s.cs.length) (cc:=cc) (gone:=false) B (show i<256 by have:=(lL HTI.out);have:=HI.out.len;omega) HOK.out HRO.out HSC4.out.x HRH4.out.p HRH4.out.v.hvs)
    obtain ⟨y0,y1,y2,y3,y4,m0,m1⟩:=HX4.out.sm
    have HA0:=aAb ha0
    subst ha0
    go_wp2_with fail
    refine HCH.out.mono ?_
    rintro e w5 ⟨vl,rfl,hcr,hb5⟩
    have HD5:=aAb (HD4.out.later hb5)
    have HB5:=aAb (HB4.out.trans (hb5.mono HB4.out.size))
    have hll:cs.length+(chL (keysR i t.s r) (rowB r) false).length≤1000:=by
     rw [chL_len]
     have:=keysR_len i r HOK.out
     have:=HLM.out
     omega
    obtain ⟨la,lc,el,hcall⟩:=aGy HD5.out.dd HD4.out.dd rfl hcr hll (chL_ref HOK.out HRO.out)
    rw [chL_laid] at hcall
    subst el
    have HCA:=aAb hcall
    clear hcr hb5 hcall hll HCH y0 y1 y2 y3 y4 m0 m1
    generalize (chL (keysR i t.s r) (rowB r) false).length=kl at *
    go_wp2_with fail
    refine HCA.out.mono ?_
    rintro e w6 ⟨v6,rfl,hd6,hf6⟩
    have HR6:Hid (OpR B p q g ls db v cs W w0 w (insO T t.s.nm r) (.returned (.int .i64 0)) w6):=by
     rw [HIO.out,if_neg (by rw [HF0.out];simp),if_neg (by rw [HAV.out];simp)]
     exact ⟨v6,rfl,HD5.out.fr hd6 hf6,(DFr.of HB5.out HD.out.bw).trans hf6⟩
    clear hd6 hf6 HCA
    go_wp2
    go_ret
    exact HR6.out
   ·have ha1:(av == 0)=false:=by simpa using ha0
    have ha2:(av != 0)=true:=by simpa using ha0
    have HA0:=aAb ha0
    go_wp2
    go_ret
    rw [HIO.out,if_neg (by rw [HF0.out];simp),if_pos (by rw [HAV.out];exact HA0.out),HAV.out]
    exact OpR.no HD.out HB4.out
  ·have he:=hft.1 hf0
   unfold zT zR at he
   obtain ⟨fv,hfv⟩:∃ fv,t.s.fits r=fv:=⟨_,rfl⟩
   have HFV:=aAb hfv
   rw [hfv] at he hf0
   subst he
   have HF0:=aAb hf0
   have hf1:(fv == 0)=false:=by simpa using hf0
   have hf2:(fv != 0)=true:=by simpa using hf0
   have hbx:=(aAf w2 (.cells #[.pointer none,.int .u8 0,.string ⟨#[]⟩,.slice none 0 0,.slice none 0 0] 86)).trans ((aAf (w2.alloc (.cells #[.pointer none,.int .u8 0,.string ⟨#[]⟩,.slice none 0 0,.slice none 0 0] 86)) (.cells #[.slice none 0 0,.slice none 0 0] 92)).mono (aAf w2 _).size)
   have HB3:=aAb (HB2.out.trans (hbx.mono HB2.out.size))
   clear hbx hft hfv
   go_wp2
   go_ret
   rw [HIO.out,if_pos (by rw [HFV.out];exact HF0.out),HFV.out]
   exact OpR.no HD.out HB3.out
theorem aHi {T:List Tbl} {nm:ByteArray} {x:Val} {i:Nat} {t:Tbl} (h1:tAt T nm=some i) (h2:T[i]?=some t):delO T nm x=if x.err≠0 then ⟨T,[],62⟩ else match rowAt t.rows x with
 | none=>⟨T,[],4⟩
 | some r=>⟨setT T i t (cutV x t.rows),goneR i t.s r,0⟩:=by
 unfold delO
 rw [h1]
 dsimp only
 rw [h2]
 rfl
theorem delO_none {T:List Tbl} {nm:ByteArray} {x:Val} (h1:tAt T nm=none):delO T nm x=⟨T,[],60⟩:=by unfold delO;rw [h1]
theorem aDe (w:World) (a b:Obj):Below w.heap.size w ((w.alloc a).alloc b):=(aAf w a).trans ((aAf _ b).mono (aAf w a).size)
theorem tdelete_ok [Gd] {B p q g ls db:Nat} {v:Value} {cs:List Ch} {W w0 w:World} {T:List Tbl} {x:Val} (h:DR B p q g ls db v cs W w0 w) (I:Inv cs T) (hl:cs.length≤990) (nm:ByteArray) (hx:x.ok) (hxs:x.2.2.size≤1048576) :
  Calls Tryz.prog 12 #[.pointer (some ⟨db,0,none⟩),.string nm,.agg #[.int .i64 x.1,.int .i64 x.2.1,.string x.2.2]] w fun e w'=>OpR B p q g ls db v cs W w0 w (delO T nm x) e w':=by
 have HD:=aAb h
 have HI:=aAb I
 have HLN:Hid (cs.length≤1000):=by show _≤_;omega
 have HLM:=aAb hl
 obtain ⟨w1,hw1⟩:∃ w1,w1=w.alloc (.cells #[.int .i64 x.1,.int .i64 x.2.1,.string x.2.2] 37):=⟨_,rfl⟩
 have hb1:Below w.heap.size w w1:=by rw [hw1];exact aAf w _
 have HK1:Hid (w1.heap[w.heap.size]?=some (.cells #[.int .i64 x.1,.int .i64 x.2.1,.string x.2.2] 37 (0,0))):=by show _=_;rw [hw1];exact boxed w _
 have HB1:=aAb hb1
 have HFI:=aAb (aH7 (h.later hb1) I (by omega) nm hx hxs)
 have HW1:=aAb hw1
 have k0:w1.cell? ⟨w.heap.size,0,none⟩=some (.int .i64 x.1):=aAa HK1.out
 have k1:w1.cell? ⟨w.heap.size,1,none⟩=some (.int .i64 x.2.1):=aAa HK1.out
 have k2:w1.cell? ⟨w.heap.size,2,none⟩=some (.string x.2.2):=aAa HK1.out
 clear h I hl hx hxs hb1 hw1
 go_enter Tryz.func12,Tryz.ntmps12
 go_upto_region 1 with fail
 rw [←HW1.out]
 clear HW1
 go_wp2_with fail
 refine HFI.out.mono ?_
 rintro e w2 ⟨hfi,hb2⟩
 have HB2:Hid (Below w.heap.size w w2):=HB1.out.trans (hb2.mono HB1.out.size)
 have HFR:=aAb hfi
 clear hfi hb2 HFI k0 k1 k2 HK1
 cases hta:tAt T nm with
 | none =>
  have he:=HFR.out.1 hta
  unfold zT zR at he
  subst he
  have HTA:=aAb hta
  have hbx:=aDe w2 (.cells #[.pointer none,.int .u8 0,.string ⟨#[]⟩,.slice none 0 0,.slice none 0 0] 86) (.cells #[.slice none 0 0,.slice none 0 0] 92)
  have HB3:=aAb (HB2.out.trans (hbx.mono HB2.out.size))
  clear hbx hta HFR
  go_wp2
  go_ret
  rw [delO_none HTA.out]
  exact OpR.no HD.out HB3.out
 | some i =>
  obtain ⟨t,hti,htn,htm⟩:=aBq hta
  subst htn
  have hft:=HFR.out.2 i t hta hti
  have HTA:=aAb hta
  have HTI:=aAb hti
  have HOK:=aAb (HI.out.ok t htm)
  have HIO:=aAb (aHi (x:=x) hta hti)
  have HTM:=aAb htm
  clear hta hti htm HFR
  by_cases hf0:x.err=0
  ·obtain ⟨ca,cc,xa,xc,fa,fn,fc,ga,gc,he,hsc,hgq⟩:=hft.2 hf0
   unfold tblV at he
   have HX0:=aAb hf0
   have hx0:TRX w2.heap.size (w2.heap.size+1) (.pointer (some ⟨db,0,none⟩)) i t.s.nm ca t.s.cs.length cc xa t.s.xs.length xc (.slice fa fn fc) ga fn gc w2 ((w2.alloc (.cells #[.pointer (some ⟨db,0,none⟩),.int .u8 (i:Int),.string t.s.nm,.slice ca t.s.cs.length cc,.slice xa t.s.xs.length xc] 86)).alloc (.cells #[.slice fa fn fc,.slice ga fn gc] 92)):=TRX.new w2
   have HX3:=aAb hx0
   have HSC3:=aAb (hsc.later hx0.be)
   have HGQ3:=aAb (hgq.later hx0.be)
   have HB3:=aAb (HB2.out.trans (hx0.be.mono HB2.out.size))
   have HD3:=aAb (HD.out.later HB3.out)
   cases hra:rowAt t.rows x with
   | none =>
    rw [hra] at he
    have he:e=.returned (.tuple #[.agg #[.pointer (some ⟨db,0,none⟩),.int .u8 (i:Int),.string t.s.nm,.slice ca t.s.cs.length cc,.slice xa t.s.xs.length xc],.agg #[.slice fa fn fc,.slice ga fn gc],.int .i64 4]):=he
    subst he
    have HRA:=aAb hra
    clear hft hf0 hsc hgq hx0 hra
    go_wp2
    go_ret
    rw [HIO.out,if_neg (by rw [HX0.out];simp),HRA.out]
    exact OpR.no HD.out HB3.out
   | some r =>
    rw [hra] at he
    have he:e=.returned (.tuple #[.agg #[.pointer (some ⟨db,0,none⟩),.int .u8 (i:Int),.string t.s.nm,.slice ca t.s.cs.length cc,.slice xa t.s.xs.length xc],.agg #[.slice fa fn fc,.slice ga fn gc],.int .i64 0]):=he
    subst he
    have HRA:=aAb hra
    obtain ⟨hrm,hrf⟩:=aFe hra
    obtain ⟨hfn,hrh⟩:=HGQ3.out.2 r hra
    have HRO:=aAb (HI.out.row t HTM.out r hrm)
    have HRH3:=aAb hrh
    have HFN:=aAb hfn
    clear hft hf0 hsc hgq hx0 hra hrm hrf hrh hfn
    go_upto_region 2 with fail
    generalize (w2.alloc (.cells #[.pointer (some ⟨db,0,none⟩),.int .u8 (i:Int),.string t.s.nm,.slice ca t.s.cs.length cc,.slice xa t.s.xs.length xc] 86)).alloc (.cells #[.slice fa fn fc,.slice ga fn gc] 92)=w3 at *
    generalize w2.heap.size=L at *
    have hch:=aHm (dv:=.pointer (some ⟨db,0,none⟩)) (nm:=t.s.nm) (ca:=ca) (cl:=t.s.cs.length) (cc:=cc) (gone:=true) B (show i<256 by have:=(lL HTI.out);have:=HI.out.len;omega) HOK.out HRO.out HSC3.out.x HRH3.out.p HRH3.out.v.hvs
    rw [←HFN.out] at hch
    have HCH:=aAb hch
    obtain ⟨y0,y1,y2,y3,y4,m0,m1⟩:=HX3.out.sm
    clear hch
    go_wp2_with fail
    refine HCH.out.mono ?_
    rintro e w5 ⟨vl,rfl,hcr,hb5⟩
    have HD5:=aAb (HD3.out.later hb5)
    have HB5:=aAb (HB3.out.trans (hb5.mono HB3.out.size))
    have hll:cs.length+(chL (keysR i t.s r) (rowB r) true).length≤1000:=by
     rw [chL_len]
     have:=keysR_len i r HOK.out
     have:=HLM.out
     omega
    obtain ⟨la,lc,el,hcall⟩:=aGy HD5.out.dd HD3.out.dd rfl hcr hll (chL_ref HOK.out HRO.out)
    rw [chL_gone] at hcall
    subst el
    have HCA:=aAb hcall
    clear hcr hb5 hcall hll HCH y0 y1 y2 y3 y4 m0 m1
    generalize (chL (keysR i t.s r) (rowB r) true).length=kl at *
    go_wp2_with fail
    refine HCA.out.mono ?_
    rintro e w6 ⟨v6,rfl,hd6,hf6⟩
    have HR6:Hid (OpR B p q g ls db v cs W w0 w (delO T t.s.nm x) (.returned (.int .i64 0)) w6):=by
     rw [HIO.out,if_neg (by rw [HX0.out];simp),HRA.out]
     exact ⟨v6,rfl,HD5.out.fr hd6 hf6,(DFr.of HB5.out HD.out.bw).trans hf6⟩
    clear hd6 hf6 HCA
    go_wp2
    go_ret
    exact HR6.out
  ·have he:=hft.1 hf0
   unfold zT zR at he
   subst he
   have HX0:=aAb hf0
   have hbx:=aDe w2 (.cells #[.pointer none,.int .u8 0,.string ⟨#[]⟩,.slice none 0 0,.slice none 0 0] 86) (.cells #[.slice none 0 0,.slice none 0 0] 92)
   have HB3:=aAb (HB2.out.trans (hbx.mono HB2.out.size))
   clear hbx hft hf0
   go_wp2
   go_ret
   rw [HIO.out,if_pos HX0.out]
   exact OpR.no HD.out HB3.out
def lenO (T:List Tbl) (nm:ByteArray):Int×Int:=match tAt T nm with
 | none=>(0,60)
 | some i=>match T[i]? with
  | none=>(0,60)
  | some t=>((t.rows.length:Int),0)
theorem aG2 {T:List Tbl} {nm:ByteArray} {i:Nat} {t:Tbl} (h1:tAt T nm=some i) (h2:T[i]?=some t):lenO T nm=((t.rows.length:Int),0):=by
 unfold lenO
 rw [h1]
 dsimp only
 rw [h2]
theorem lenO_none {T:List Tbl} {nm:ByteArray} (h1:tAt T nm=none):lenO T nm=(0,60):=by unfold lenO;rw [h1]
theorem tlen_ok [Gd] {B p q g ls db:Nat} {v:Value} {cs:List Ch} {W w0 w:World} {T:List Tbl} (h:DR B p q g ls db v cs W w0 w) (I:Inv cs T) (hl:cs.length≤1000) (nm:ByteArray) :
  Calls Tryz.prog 13 #[.pointer (some ⟨db,0,none⟩),.string nm] w fun e w'=>e=.returned (.tuple #[.int .i64 (lenO T nm).1,.int .i64 (lenO T nm).2])∧Below w.heap.size w w':=by
 have HD:=aAb h
 have HI:=aAb I
 have HLN:Hid (cs.length≤1000):=by show _≤_;omega
 have HFI:=aAb (aEh h I hl nm)
 obtain ⟨ln,hln⟩:∃ ln,lenO T nm=ln:=⟨_,rfl⟩
 have HLE:=aAb hln
 rw [hln]
 clear h I hl hln
 go_enter Tryz.func13,Tryz.ntmps13
 go_wp2_with fail
 refine HFI.out.mono ?_
 rintro e w2 ⟨hfi,hb2⟩
 have HB2:=aAb hb2
 have HFR:=aAb hfi
 clear hfi hb2 HFI
 cases hta:tAt T nm with
 | none =>
  have he:=HFR.out.1 hta
  subst he
  have HTA:=aAb hta
  have HB3:=aAb (HB2.out.trans ((aAf w2 (.cells #[.pointer none,.int .u8 0,.string ⟨#[]⟩,.slice none 0 0,.slice none 0 0] 86)).mono HB2.out.size))
  clear hta HFR
  go_wp2
  go_ret2
  rw [←HLE.out,lenO_none HTA.out]
  exact ⟨rfl,HB3.out⟩
 | some i =>
  obtain ⟨t,hti,htn,htm⟩:=aBq hta
  subst htn
  obtain ⟨ca,cc,xa,xc,he,hsc⟩:=HFR.out.2 i t hta hti
  unfold tblV at he
  subst he
  have HL0:=aAb (aG2 hta hti)
  have hbx:=aAf w2 (.cells #[.pointer (some ⟨db,0,none⟩),.int .u8 (i:Int),.string t.s.nm,.slice ca t.s.cs.length cc,.slice xa t.s.xs.length xc] 86)
  have HB3:=aAb (HB2.out.trans (hbx.mono HB2.out.size))
  have HV3:Hid ((w2.alloc (.cells #[.pointer (some ⟨db,0,none⟩),.int .u8 (i:Int),.string t.s.nm,.slice ca t.s.cs.length cc,.slice xa t.s.xs.length xc] 86)).heap[w2.heap.size]?=some (.cells #[.pointer (some ⟨db,0,none⟩),.int .u8 (i:Int),.string t.s.nm,.slice ca t.s.cs.length cc,.slice xa t.s.xs.length xc] 86 (0,0))):=boxed w2 _
  have HCO:=aAb (tcount_ok (ca:=ca) (xa:=xa) (cc:=cc) (xc:=xc) (HD.out.later HB3.out) HI.out HLN.out hti)
  clear hta hti htm hsc hbx HFR
  go_upto_region 2 with fail
  generalize w2.alloc (.cells #[.pointer (some ⟨db,0,none⟩),.int .u8 (i:Int),.string t.s.nm,.slice ca t.s.cs.length cc,.slice xa t.s.xs.length xc] 86)=w3 at *
  generalize w2.heap.size=V at *
  have y0:w3.cell? ⟨V,0,none⟩=some (.pointer (some ⟨db,0,none⟩)):=aAa HV3.out
  have y1:w3.cell? ⟨V,1,none⟩=some (.int .u8 (i:Int)):=aAa HV3.out
  have y2:w3.cell? ⟨V,2,none⟩=some (.string t.s.nm):=aAa HV3.out
  have y3:w3.cell? ⟨V,3,none⟩=some (.slice ca t.s.cs.length cc):=aAa HV3.out
  have y4:w3.cell? ⟨V,4,none⟩=some (.slice xa t.s.xs.length xc):=aAa HV3.out
  go_wp2_with fail
  refine HCO.out.mono ?_
  rintro e w4 ⟨rfl,hb4⟩
  have HB4:=aAb (HB3.out.trans (hb4.mono HB3.out.size))
  clear hb4 HCO y0 y1 y2 y3 y4
  go_wp2
  go_ret2
  rw [←HLE.out,HL0.out]
  exact ⟨rfl,HB4.out⟩
def getO (T:List Tbl) (nm:ByteArray) (x:Val):Option (List Val)×Int:=match tAt T nm with
 | none=>(none,60)
 | some i=>match T[i]? with
  | none=>(none,60)
  | some t=>if x.err≠0 then (none,62) else match rowAt t.rows x with
   | none=>(none,4)
   | some r=>(some r,0)
theorem aCn {T:List Tbl} {nm:ByteArray} {x:Val} {i:Nat} {t:Tbl} (h1:tAt T nm=some i) (h2:T[i]?=some t):getO T nm x=(if x.err≠0 then (none,62) else match rowAt t.rows x with
   | none=>(none,4)
   | some r=>(some r,0):Option (List Val)×Int):=by
 unfold getO
 rw [h1]
 dsimp only
 rw [h2]
theorem getO_none {T:List Tbl} {nm:ByteArray} {x:Val} (h1:tAt T nm=none):getO T nm x=(none,60):=by unfold getO;rw [h1]
def TlR (o:Option (List Val)) (ec:Int) (e:Ending) (w':World):Prop:=∃ a n c,e=.returned (.tuple #[.slice a n c,.int .i64 ec])∧SVK fV 3 w' a n c (o.getD [])
theorem tgetrow_ok [Gd] {B p q g ls db:Nat} {v:Value} {cs:List Ch} {W w0 w:World} {T:List Tbl} {x:Val} (h:DR B p q g ls db v cs W w0 w) (I:Inv cs T) (hl:cs.length≤1000) (nm:ByteArray) (hx:x.ok) (hxs:x.2.2.size≤1048576) :
  Calls Tryz.prog 49 #[.pointer (some ⟨db,0,none⟩),.string nm,.agg #[.int .i64 x.1,.int .i64 x.2.1,.string x.2.2]] w fun e w'=>TlR (getO T nm x).1 (getO T nm x).2 e w'∧Below w.heap.size w w':=by
 have HD:=aAb h
 have HI:=aAb I
 have HLN:Hid (cs.length≤1000):=by show _≤_;omega
 obtain ⟨w1,hw1⟩:∃ w1,w1=w.alloc (.cells #[.int .i64 x.1,.int .i64 x.2.1,.string x.2.2] 37):=⟨_,rfl⟩
 have hb1:Below w.heap.size w w1:=by rw [hw1];exact aAf w _
 have HK1:Hid (w1.heap[w.heap.size]?=some (.cells #[.int .i64 x.1,.int .i64 x.2.1,.string x.2.2] 37 (0,0))):=by show _=_;rw [hw1];exact boxed w _
 have HB1:=aAb hb1
 have HFI:=aAb (aH7 (h.later hb1) I (by omega) nm hx hxs)
 have HW1:=aAb hw1
 have k0:w1.cell? ⟨w.heap.size,0,none⟩=some (.int .i64 x.1):=aAa HK1.out
 have k1:w1.cell? ⟨w.heap.size,1,none⟩=some (.int .i64 x.2.1):=aAa HK1.out
 have k2:w1.cell? ⟨w.heap.size,2,none⟩=some (.string x.2.2):=aAa HK1.out
 obtain ⟨go,hgo⟩:∃ go,getO T nm x=go:=⟨_,rfl⟩
 have HGO:=aAb hgo
 rw [hgo]
 clear h I hl hx hxs hb1 hw1 hgo
 go_enter Tryz.func49,Tryz.ntmps49
 go_upto_region 1 with fail
 rw [←HW1.out]
 clear HW1
 go_wp2_with fail
 refine HFI.out.mono ?_
 rintro e w2 ⟨hfi,hb2⟩
 have HB2:Hid (Below w.heap.size w w2):=HB1.out.trans (hb2.mono HB1.out.size)
 have HFR:=aAb hfi
 clear hfi hb2 HFI k0 k1 k2 HK1
 have hany:∃ dp dn ds da db1 dc ea eb ec1 fa fn fc ga gc ec,e=.returned (.tuple #[.agg #[.pointer dp,.int .u8 dn,.string ds,.slice da db1 dc,.slice ea eb ec1],.agg #[.slice fa fn fc,.slice ga fn gc],.int .i64 ec])∧ec=go.2∧SVK fV 3 w2 fa fn fc (go.1.getD []):=by
  cases hta:tAt T nm with
  | none =>
   have he:=HFR.out.1 hta
   unfold zT zR at he
   refine ⟨_,_,_,_,_,_,_,_,_,none,0,0,none,0,60,he,?_,?_⟩
   ·rw [←HGO.out,getO_none hta]
   ·rw [←HGO.out,getO_none hta];exact SVK.nil _ _ _
  | some i =>
   obtain ⟨t,hti,htn,htm⟩:=aBq hta
   subst htn
   have hft:=HFR.out.2 i t hta hti
   by_cases hf0:x.err=0
   ·obtain ⟨ca,cc,xa,xc,fa,fn,fc,ga,gc,he,hsc,hgq⟩:=hft.2 hf0
    unfold tblV at he
    cases hra:rowAt t.rows x with
    | none =>
     rw [hra] at he
     obtain ⟨rfl,rfl,rfl,rfl,rfl⟩:=hgq.1 hra
     refine ⟨_,_,_,_,_,_,_,_,_,none,0,0,none,0,4,he,?_,?_⟩
     ·rw [←HGO.out,aCn hta hti,if_neg (by rw [hf0];simp),hra]
     ·rw [←HGO.out,aCn hta hti,if_neg (by rw [hf0];simp),hra];exact SVK.nil _ _ _
    | some r =>
     rw [hra] at he
     obtain ⟨hfn,hrh⟩:=hgq.2 r hra
     refine ⟨_,_,_,_,_,_,_,_,_,fa,fn,fc,ga,gc,0,he,?_,?_⟩
     ·rw [←HGO.out,aCn hta hti,if_neg (by rw [hf0];simp),hra]
     ·rw [←HGO.out,aCn hta hti,if_neg (by rw [hf0];simp),hra,hfn];exact hrh.p
   ·have he:=hft.1 hf0
    unfold zT zR at he
    refine ⟨_,_,_,_,_,_,_,_,_,none,0,0,none,0,62,he,?_,?_⟩
    ·rw [←HGO.out,aCn hta hti,if_pos hf0]
    ·rw [←HGO.out,aCn hta hti,if_pos hf0];exact SVK.nil _ _ _
 obtain ⟨dp,dn,ds,da,db1,dc,ea,eb,ec1,fa,fn,fc,ga,gc,ec,rfl,hec,hsv⟩:=hany
 have HEC:=aAb hec
 have hb3:=aDe w2 (.cells #[.pointer dp,.int .u8 dn,.string ds,.slice da db1 dc,.slice ea eb ec1] 86) (.cells #[.slice fa fn fc,.slice ga fn gc] 92)
 have HB3:=aAb (HB2.out.trans (hb3.mono HB2.out.size))
 have HS3:=aAb (hsv.later hb3)
 have m0:((w2.alloc (.cells #[.pointer dp,.int .u8 dn,.string ds,.slice da db1 dc,.slice ea eb ec1] 86)).alloc (.cells #[.slice fa fn fc,.slice ga fn gc] 92)).cell? ⟨w2.heap.size+1,0,none⟩=some (.slice fa fn fc):=aAa (heap_alloc2_new w2 _ _)
 clear hsv hec hb3 HFR
 go_upto_region 2 with fail
 generalize (w2.alloc (.cells #[.pointer dp,.int .u8 dn,.string ds,.slice da db1 dc,.slice ea eb ec1] 86)).alloc (.cells #[.slice fa fn fc,.slice ga fn gc] 92)=w3 at *
 generalize w2.heap.size+1=Q at *
 go_wp2
 go_ret2
 exact ⟨⟨fa,fn,fc,by rw [←HEC.out];rfl,HS3.out⟩,HB3.out⟩
end Go.Proofs.YtgckjkocmkedfabGreat
