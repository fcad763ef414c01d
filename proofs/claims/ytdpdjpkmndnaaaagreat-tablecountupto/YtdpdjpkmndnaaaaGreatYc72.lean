import Derived.Deep.CutRange
import Derived.Test.YtdpdjpkmndnaaaaGreatYc71
set_option maxRecDepth 100000
set_option maxHeartbeats 16000000
set_option linter.unusedVariables false
namespace Go.Proofs.YtdpdjpkmndnaaaaGreat
open Go.RowKit _root_.Go.Proofs.Tryz
variable {B R b c cap db g k len ls n o p q:Nat} {T:List Tbl} {W w w' w0:World} {a:Option Addr} {b0 b1 b2 b3 b4 v:Value} {cs:List Ch} {fn:Func} {s:Sch} {t:TypeId} {xs:List Nat}
theorem conv_u (s:ByteArray) (w:World) (h:s.size<=1000):∃ cap w',(convert 9 97 (.string s)).run prog w=.ok (.slice (some ⟨w.heap.size,0,none⟩) s.size cap) w'/\Below w.heap.size w w'/\BS w' (some ⟨w.heap.size,0,none⟩) s.size cap (slK s)/\UB w' (some ⟨w.heap.size,0,none⟩):=by
 refine ⟨_,_,run_bytes_of_string w 9 97 5 s underlying9 underlying97 underlying5,(Below.refl _ _).drew.alloc (nR _) _,?_,?_⟩
 ·have hge:=grownCap_ge w s.size 0 5;have hle:=grownCap_le_maxLen w s.size 0 5 (by unfold maxLen;omega);unfold maxLen at hle;exact conv_bsK (heap_alloc_new w.drew _) hge (by omega) (by omega)
 ·intro x hx;cases hx;exact ⟨_,_,heap_alloc_new w.drew _⟩
theorem info_tab:(prog.info? 101).map (·.size)=some 5:=by kernel_rfl
theorem info_hrow:(prog.info? 119).map (·.size)=some 2:=by kernel_rfl
theorem aEr {p u:Tmp} (h:fn.results=#[.cell p 101,.tmp u]) (tmps:Array Value) (w:World) (g:Nat) (t:TypeId) (x0 x1 x2 x3 x4:Value) (fr:Nat×Nat)
  (hp:tmps.getD p undef=.pointer (some ⟨g,0,none⟩)) (hg:w.heap[g]?=some (.cells #[x0,x1,x2,x3,x4] t fr)) :
  (results fn tmps).run prog w=.ok (.tuple #[.agg #[x0,x1,x2,x3,x4],tmps.getD u undef]) w:=by
 rw [results_cell_tmp h,hp];simp only [asAddr,Sem.run_pure,Result.andThen_ok,run_loadVar_row w g t 101 #[x0,x1,x2,x3,x4] fr _ hg underlying101 rfl info_tab]
theorem aDr {p u:Tmp} (h:fn.results=#[.cell p 119,.tmp u]) (tmps:Array Value) (w:World) (g:Nat) (t:TypeId) (x0 x1:Value) (fr:Nat×Nat)
  (hp:tmps.getD p undef=.pointer (some ⟨g,0,none⟩)) (hg:w.heap[g]?=some (.cells #[x0,x1] t fr)) :
  (results fn tmps).run prog w=.ok (.tuple #[.agg #[x0,x1],tmps.getD u undef]) w:=by
 rw [results_cell_tmp h,hp];simp only [asAddr,Sem.run_pure,Result.andThen_ok,run_loadVar_row w g t 119 #[x0,x1] fr _ hg underlying119 rfl info_hrow]
theorem aJb {a0 a1 a2 a3 a4:Value} (h:w.heap[g]?=some (.cells #[a0,a1,a2,a3,a4] t (0,0))):(((((w.setCell ⟨g,0,none⟩ b0).setCell ⟨g,1,none⟩ b1).setCell ⟨g,2,none⟩ b2).setCell ⟨g,3,none⟩ b3).setCell ⟨g,4,none⟩ b4).heap[g]?=some (.cells #[b0,b1,b2,b3,b4] t (0,0)) :=
 heap_setCell_same _ _ _ _ _ _ (heap_setCell_same _ _ _ _ _ _ (heap_setCell_same _ _ _ _ _ _ (heap_setCell_same _ _ _ _ _ _ (heap_setCell_same _ _ _ _ _ _ h))))
theorem aDp (h:b≠g):(((((w.setCell ⟨g,0,none⟩ b0).setCell ⟨g,1,none⟩ b1).setCell ⟨g,2,none⟩ b2).setCell ⟨g,3,none⟩ b3).setCell ⟨g,4,none⟩ b4).heap[b]?=w.heap[b]?:=by
 rw [heap_setCell_other _ _ _ _ h,heap_setCell_other _ _ _ _ h,heap_setCell_other _ _ _ _ h,heap_setCell_other _ _ _ _ h,heap_setCell_other _ _ _ _ h]
theorem aHj (h:Below B w0 w) (hg:B<=g):Below B w0 (((((w.setCell ⟨g,0,none⟩ b0).setCell ⟨g,1,none⟩ b1).setCell ⟨g,2,none⟩ b2).setCell ⟨g,3,none⟩ b3).setCell ⟨g,4,none⟩ b4) :=
 ((((h.setCell (p:=⟨g,0,none⟩) hg _).setCell (p:=⟨g,1,none⟩) hg _).setCell (p:=⟨g,2,none⟩) hg _).setCell (p:=⟨g,3,none⟩) hg _).setCell (p:=⟨g,4,none⟩) hg _
theorem set5S:w.heap.size<=(((((w.setCell ⟨g,0,none⟩ b0).setCell ⟨g,1,none⟩ b1).setCell ⟨g,2,none⟩ b2).setCell ⟨g,3,none⟩ b3).setCell ⟨g,4,none⟩ b4).heap.size:=(aHj (g:=g) (b0:=b0) (b1:=b1) (b2:=b2) (b3:=b3) (b4:=b4) (Below.refl 0 w) (Nat.zero_le _)).size
theorem SVK.set5 {α:Type} {f:α->List Value} {l:List α} (h:SVK f k w a len cap l) (hne:0<len->∀ b o,a=some ⟨b,o,none⟩->b≠g):SVK f k (((((w.setCell ⟨g,0,none⟩ b0).setCell ⟨g,1,none⟩ b1).setCell ⟨g,2,none⟩ b2).setCell ⟨g,3,none⟩ b3).setCell ⟨g,4,none⟩ b4) a len cap l:=by
 refine ⟨h.hl,h.hc,h.hm,h.hn,fun h0=>?_⟩;obtain ⟨b,o,h1,h2,h3⟩:=h.pl h0;exact ⟨b,o,h1,Nat.lt_of_lt_of_le h2 set5S,fun i x hx t ht=>(World.cell?_of_block (aDp (hne h0 b o h1))).trans (h3 i x hx t ht)⟩
theorem zero_no (h:w.heap[R]?=some (.cells #[.pointer none,.int .u8 0,.string ⟨#[]⟩,.slice none 0 0,.slice none 0 0] 101 (0,0))) {o:Nat} {z:Int}:w.cell? ⟨R,o,none⟩≠some (.int .i64 z):=by
 rw [aAa h]
 match o with
 | 0=>simp
 | 1=>simp
 | 2=>simp
 | 3=>simp
 | 4=>simp
 | n+5=>simp
theorem col_no (h:w.heap[R]?=some (.cells #[.pointer none,.int .u8 0,.string ⟨#[]⟩,.slice none 0 0,.slice none 0 0] 101 (0,0))) {a:Option Addr} {n c:Nat} {l:List Col} (hs:SVK fC 3 w a n c l):0<n->∀ b o,a=some ⟨b,o,none⟩->b≠R:=by
 intro h0 b o ha e;obtain ⟨b',o',h1,_,h3⟩:=hs.pl h0;rw [ha] at h1;simp only [oI,Addr.mk.injEq] at h1;obtain ⟨rfl,rfl,_⟩:=h1;subst e;obtain ⟨x,hx⟩:∃ x,l[0]?=some x:=⟨_,gE (by rw [hs.hl];exact h0)⟩;exact zero_no h (h3 0 x hx 1 (by omega))
theorem ix_no (h:w.heap[R]?=some (.cells #[.pointer none,.int .u8 0,.string ⟨#[]⟩,.slice none 0 0,.slice none 0 0] 101 (0,0))) {a:Option Addr} {n c:Nat} {l:List Idx} (hs:SVK fX 2 w a n c l):0<n->∀ b o,a=some ⟨b,o,none⟩->b≠R:=by
 intro h0 b o ha e;obtain ⟨b',o',h1,_,h3⟩:=hs.pl h0;rw [ha] at h1;simp only [oI,Addr.mk.injEq] at h1;obtain ⟨rfl,rfl,_⟩:=h1;subst e;obtain ⟨x,hx⟩:∃ x,l[0]?=some x:=⟨_,gE (by rw [hs.hl];exact h0)⟩;exact zero_no h (h3 0 x hx 0 (by omega))
def tblV (db i:Nat) (s:Sch) (ca:Option Addr) (cc:Nat) (xa:Option Addr) (xc:Nat):Value:=.agg #[.pointer (some ⟨db,0,none⟩),.int .u8 (i:Int),.string s.nm,.slice ca s.cs.length cc,.slice xa s.xs.length xc]
def FindR (T:List Tbl) (nm:ByteArray) (db:Nat) (e:Ending) (w':World):Prop :=
 (tAt T nm=none->e=.returned (.tuple #[.agg #[.pointer none,.int .u8 0,.string ⟨#[]⟩,.slice none 0 0,.slice none 0 0],.int .i64 60])) /\
 ∀ i t,tAt T nm=some i->T[i]?=some t->∃ ca cc xa xc,e=.returned (.tuple #[tblV db i t.s ca cc xa xc,.int .i64 0])/\SC w' ca t.s.cs.length cc xa t.s.xs.length xc t.s
theorem GtD.none_ {o:Option Ch} {e:Ending} (h:GtD B o e w') (hg:∀ c,o=some c->c.gone=true):e=.returned (.tuple #[.slice none 0 0,.bool false,.int .i64 0]):=by
 obtain ⟨vv,is,he,ho⟩:=h
 cases o with
 | none=>obtain ⟨rfl,rfl⟩:=ho;exact he
 | some c =>
  have ho:if c.gone=true then vv=.slice none 0 0/\is=false else is=true/\KV B w' vv c.val:=ho
  rw [if_pos (hg c rfl)] at ho;obtain ⟨rfl,rfl⟩:=ho;exact he
theorem GtD.some_ {c:Ch} {e:Ending} (h:GtD B (some c) e w') (hg:c.gone=false):∃ a k,e=.returned (.tuple #[.slice a c.val.length k,.bool true,.int .i64 0])/\BK B w' a c.val.length k c.val:=by
 obtain ⟨vv,is,he,ho⟩:=h;have ho:if c.gone=true then vv=.slice none 0 0/\is=false else is=true/\KV B w' vv c.val:=ho
 rw [if_neg (by rw [hg];decide)] at ho;obtain ⟨rfl,a,k,rfl,hb⟩:=ho;exact ⟨a,k,he,hb⟩
theorem bs_tail {x:Nat} (h:BS w (some ⟨b,o,none⟩) (n+1) c (x::xs)):BS w (some ⟨b,o+1,none⟩) n (c-1) xs:=by
 refine ⟨by have:=h.hlen;simpa using this,by have:=h.hcap;omega,by have:=h.hroom;omega,by have:=h.hmax;omega,fun y hy=>h.hbyte y (List.mem_cons_of_mem _ hy),(fun q=>by cases q),fun a ha i hi=>?_⟩;cases ha;have:=h.hcell _ rfl (i+1) (by omega);rw [add_plain] at this ⊢;rw [show o+1+i=o+(i+1) by omega,this];rfl
theorem encS_pos (h:s.ok=true):0<(encS s).length:=by
 unfold encS wb;have h8:=(Sch.parts h).1;have:=aAo s.nm.size (aAp s.nm.size (by omega)).1;have:=(aAp s.nm.size (by omega)).1;simp only [lA];omega
theorem nm_of (h:s.ok=true):isNm s.nm=true:=by
 unfold Sch.ok at h;simp only [Bool.and_eq_true] at h;exact h.1.1
theorem aEy [Gd] (h:DR B p q g ls db v cs W w0 w) (I:Inv cs T) (hl:cs.length<=1000) (nm:ByteArray) :
  Calls prog 41 #[.pointer (some ⟨db,0,none⟩),.string nm] w fun e w'=>FindR T nm db e w'/\Below w.heap.size w w':=by
 obtain ⟨R,hR⟩:∃ R,w.heap.size=R:=⟨_,rfl⟩;obtain ⟨w1,hw1⟩:∃ w1,w1=w.alloc (.cells #[.pointer none,.int .u8 0,.string ⟨#[]⟩,.slice none 0 0,.slice none 0 0] 101):=⟨_,rfl⟩;have hb1:Below w.heap.size w w1:=by rw [hw1];exact aAe w _
 have HZ1:Hid (w1.heap[R]?=some (.cells #[.pointer none,.int .u8 0,.string ⟨#[]⟩,.slice none 0 0,.slice none 0 0] 101 (0,0))):=by show _=_;rw [hw1,<-hR];exact boxed w _
 have HD1:=aAb (h.later hb1);have HB1:Hid (Below R w w1):=by show Below R w w1;rw [<-hR];exact hb1
 have HBR:Hid (B<=R):=by show B<=R;rw [<-hR];exact h.bw
 have HI:=aAb I;have HL:=aAb hl;have HW1:=aAb hw1;have HNM:=aAb (aJo nm w1);rw [hR];clear h I hl hb1 hw1;go_enter func41,ntmps41;go_upto_region 1 with fail;rw [<-HW1.o]
 try simp only [hR]
 clear HW1;go_wp2_with fail;refine HNM.o.mono ?_;rintro e w2 ⟨rfl,hb2⟩;have HD2:=aAb (HD1.o.later hb2);have HZ2:=aAb ((hb2.block R (aAd HZ1.o)).trans HZ1.o);have HB2:Hid (Below R w w2):=HB1.o.trans (hb2.mono (Nat.le_of_lt (aAd HZ1.o)));clear hb2 HNM HD1 HZ1 HB1;by_cases hn:isNm nm=true
 ·have HNN:=aAb hn;rw [hn];have hsz:nm.size<=8:=aFj hn;have hsz1:1<=nm.size:=by
   unfold isNm at hn;simp only [Bool.and_eq_true,decide_eq_true_eq] at hn;exact hn.1.1
  obtain ⟨cp3,w3,hcv3,hb3,hbs3,hub3⟩:=conv_u nm w2 (by omega);have HD3:=aAb (HD2.o.later hb3);have HZ3:=aAb ((hb3.block R (aAd HZ2.o)).trans HZ2.o);have HB3:Hid (Below R w w3):=HB2.o.trans (hb3.mono (Nat.le_of_lt (aAd HZ2.o)));have HGT:=aAb (dget_ok (sp:=0) HD3.o.now HD3.o.dd HL.o (aB5 hbs3 hub3) (by unfold wrg;rw [show isSp 0=true from rfl,decide_eq_false (show ¬ nm.size=0 by omega),decide_eq_false (show ¬ 60<nm.size by omega),decide_eq_false (show ¬ 1800<0 by omega)];rfl));clear hn hsz hsz1 hb3 hbs3 hub3;generalize w2.heap.size=G at *
  go_wp2_with fail;refine HGT.o.mono ?_;rintro e w4 ⟨hgt,hb4⟩;have HD4:=aAb (HD3.o.later hb4);have HZ4:=aAb ((hb4.block R (aAd HZ3.o)).trans HZ3.o);have HB4:Hid (Below R w w4):=HB3.o.trans (hb4.mono (Nat.le_of_lt (aAd HZ3.o)));clear hb4 HGT HD3 HZ3 HB3 HD2 HZ2 HB2 hcv3;have t0:w4.cell? ⟨R,0,none⟩=some (.pointer none):=aAa HZ4.o;have tf0:w4.frozen? ⟨R,0,none⟩=false:=aAg HZ4.o;have t1:w4.cell? ⟨R,1,none⟩=some (.int .u8 0):=aAa HZ4.o;have tf1:w4.frozen? ⟨R,1,none⟩=false:=aAg HZ4.o;have t2:w4.cell? ⟨R,2,none⟩=some (.string ⟨#[]⟩):=aAa HZ4.o;have tf2:w4.frozen? ⟨R,2,none⟩=false:=aAg HZ4.o;have t3:w4.cell? ⟨R,3,none⟩=some (.slice none 0 0):=aAa HZ4.o;have tf3:w4.frozen? ⟨R,3,none⟩=false:=aAg HZ4.o;have t4:w4.cell? ⟨R,4,none⟩=some (.slice none 0 0):=aAa HZ4.o;have tf4:w4.frozen? ⟨R,4,none⟩=false:=aAg HZ4.o
  cases hta:tAt T nm with
  | none =>
   have he:=hgt.none_ (HI.o.find_no (aGv hta));subst he;have HTA:=aAb hta;clear hgt hta;go_wp2;(try simp only [Exit.inBlock,Exit.then]);refine bodyPost_ret (aEr results41 _ _ R _ _ _ _ _ _ _ rfl (aJb HZ4.o)) rfl ?_;exact ⟨⟨fun _=>rfl,fun i t q=>by rw [HTA.o] at q;cases q⟩,aHj HB4.o (nR _)⟩
  | some i =>
   obtain ⟨t,hti,htn,htm⟩:=aAv hta;subst htn;rw [HI.o.find_yes hti] at hgt;have hi4:i<4:=by have:=(lL hti);have:=HI.o.len;omega
   have HOK:=aAb (HI.o.ok t htm);obtain ⟨a4,k4,he,hbk⟩:=hgt.some_ rfl;subst he;dsimp only at hbk;have HTA:=aAb hta;have HTI:=aAb hti;have hep:=encS_pos HOK.o;obtain ⟨ne,hne⟩:∃ ne,(encS t.s).length=ne:=⟨_,rfl⟩;have hbk1:=hbk.1;simp only [List.length_cons] at hbk1;rw [hne] at hbk1 hep;have hlc:(i::encS t.s).length=ne+1:=by rw [List.length_cons,hne]
   obtain ⟨bb,bo,ea,_,_⟩:=hbk1.place (by omega);subst ea;have hbc:w4.cell? ⟨bb,bo,none⟩=some (.int .u8 (i:Int)):=by
    have:=hbk1.hcell _ rfl 0 (by omega);rw [add_plain,Nat.add_zero] at this;exact this
   have HBC:=aAb hbc;have HNR:Hid (bb≠R):=by
    intro q;rcases hbk.2 _ rfl with q2 | ⟨cs2,fz2,q2⟩
    ·have:=HBR.o;dsimp only at q2;omega
    ·dsimp only at q2;rw [q,HZ4.o] at q2;simp only [oI,cI] at q2;exact absurd q2.2.1 (by decide)
   have HTL:=aAb (bs_tail hbk1);have hcap:=hbk1.hcap;have hmax:=hbk1.hmax;have hrm:=hbk1.hroom;have z1:¬ ((ne:Int)+1=0):=by omega
   have z2:(1:Int)<=(ne:Int)+1:=by omega
   have z3:(0:Int)<=(ne:Int):=by omega
   have z4:(ne:Int)+1<=(k4:Int):=by omega
   have z5:(k4:Int)<=9223372036854775807:=by omega
   have z6:1<k4:=by omega
   have HDC:=aAb (decode_ok HTL.o HOK.o);rw [hlc];clear hgt hta hti htm hbk hbk1 hcap hmax hrm hbc hne hlc;go_wp2_with fail;refine HDC.o.mono ?_;rintro e w5 ⟨ca,cc,xa,xc,rfl,hsc,hb5⟩;have hbx:=aAe w5 (.cells #[.string t.s.nm,.slice ca t.s.cs.length cc,.slice xa t.s.xs.length xc] 33);have HV6:Hid ((w5.alloc (.cells #[.string t.s.nm,.slice ca t.s.cs.length cc,.slice xa t.s.xs.length xc] 33)).heap[w5.heap.size]?=some (.cells #[.string t.s.nm,.slice ca t.s.cs.length cc,.slice xa t.s.xs.length xc] 33 (0,0))):=boxed w5 _;have hz5:=(hb5.block R (aAd HZ4.o)).trans HZ4.o;have HVR:Hid (w5.heap.size≠R):=by have:=aAd hz5;show _≠_;omega
   have HZ6:=aAb ((hbx.block R (aAd hz5)).trans hz5);have HBC6:=aAb ((hbx.cell (by have:=hb5.size;have:=aAm HBC.o;omega)).trans ((hb5.cell (aAm HBC.o)).trans HBC.o));have HSC6:=aAb (hsc.later hbx);have HB6:Hid (Below R w (w5.alloc (.cells #[.string t.s.nm,.slice ca t.s.cs.length cc,.slice xa t.s.xs.length xc] 33))):=HB4.o.trans ((hb5.mono (Nat.le_of_lt (aAd HZ4.o))).trans (hbx.mono (Nat.le_of_lt (aAd hz5))));clear hbx hsc hz5 hb5 HDC t0 tf0 t1 tf1 t2 tf2 t3 tf3 t4 tf4;go_upto_region 13 with fail;generalize w5.alloc (.cells #[.string t.s.nm,.slice ca t.s.cs.length cc,.slice xa t.s.xs.length xc] 33)=w6 at *
   generalize w5.heap.size=V at *
   have y0:w6.cell? ⟨V,0,none⟩=some (.string t.s.nm):=aAa HV6.o;go_upto_region 15 with fail;clear y0;have HX0:Hid ((fun wx:World=>wx.cell? ⟨bb,bo,none⟩=some (.int .u8 (i:Int))/\wx.cell? ⟨V,0,none⟩=some (.string t.s.nm)/\wx.cell? ⟨V,1,none⟩=some (.slice ca t.s.cs.length cc)/\wx.cell? ⟨V,2,none⟩=some (.slice xa t.s.xs.length xc)) w6.drew):=⟨HBC6.o,aAa (show w6.drew.heap[V]?=_ from HV6.o),aAa (show w6.drew.heap[V]?=_ from HV6.o),aAa (show w6.drew.heap[V]?=_ from HV6.o)⟩;have HZ7:Hid (w6.drew.heap[R]?=some (.cells #[.pointer none,.int .u8 0,.string ⟨#[]⟩,.slice none 0 0,.slice none 0 0] 101 (0,0))):=HZ6.o;have HSC7:Hid (SC w6.drew ca t.s.cs.length cc xa t.s.xs.length xc t.s):=HSC6.o.later (Below.refl _ _).drew;have HB7:Hid (Below R w w6.drew):=HB6.o.drew;have HV7:Hid (w6.drew.heap[V]?=some (.cells #[.string t.s.nm,.slice ca t.s.cs.length cc,.slice xa t.s.xs.length xc] 33 (0,0))):=HV6.o;refine wp_region_noPanic ?_;refine wp_region_held_drew (S:=fun wx=>wx.cell? ⟨bb,bo,none⟩=some (.int .u8 (i:Int))/\wx.cell? ⟨V,0,none⟩=some (.string t.s.nm)/\wx.cell? ⟨V,1,none⟩=some (.slice ca t.s.cs.length cc)/\wx.cell? ⟨V,2,none⟩=some (.slice xa t.s.xs.length xc)) (by kernel_rfl) HX0.o (fun hHeld=>?_);generalize w6.drew=w7 at *
   refine kT 0 56 ?_;refine kT 1 57 ?_;refine kT 2 58 ?_;refine kT 3 59 ?_;refine kT 4 60 ?_;refine kT 5 61 ?_;have t0:w7.cell? ⟨R,0,none⟩=some (.pointer none):=aAa HZ7.o;have tf0:w7.frozen? ⟨R,0,none⟩=false:=aAg HZ7.o;have t1:w7.cell? ⟨R,1,none⟩=some (.int .u8 0):=aAa HZ7.o;have tf1:w7.frozen? ⟨R,1,none⟩=false:=aAg HZ7.o;have t2:w7.cell? ⟨R,2,none⟩=some (.string ⟨#[]⟩):=aAa HZ7.o;have tf2:w7.frozen? ⟨R,2,none⟩=false:=aAg HZ7.o;have t3:w7.cell? ⟨R,3,none⟩=some (.slice none 0 0):=aAa HZ7.o;have tf3:w7.frozen? ⟨R,3,none⟩=false:=aAg HZ7.o;have t4:w7.cell? ⟨R,4,none⟩=some (.slice none 0 0):=aAa HZ7.o;have tf4:w7.frozen? ⟨R,4,none⟩=false:=aAg HZ7.o;refine kC 6 ?_;intro K hK;go_simp;clear t0 tf0 t1 tf1 t2 tf2 t3 tf3 t4 tf4 hHeld;refine hK.out _ _ ⟨(World.cell?_of_block (aDp HNR.o)).trans HX0.o.1,(World.cell?_of_block (aDp HVR.o)).trans HX0.o.2.1,(World.cell?_of_block (aDp HVR.o)).trans HX0.o.2.2.1,(World.cell?_of_block (aDp HVR.o)).trans HX0.o.2.2.2⟩ (fun hHeld=>?_);clear hK K
   try simp only [Act.put,siT,scZ,scS]
   refine kT 7 5 ?_;refine wpAnyH_done (by kernel_rfl) ?_ _;refine NoPanic.normal ?_;clear hHeld;go_wp2;(try simp only [Exit.inBlock,Exit.then]);refine bodyPost_ret (aEr results41 _ _ R _ _ _ _ _ _ _ rfl (aJb HZ7.o)) rfl ?_;refine ⟨⟨(fun q=>nomatch (HTA.o.symm.trans q)),fun i2 t2 q1 q2=>?_⟩,aHj HB7.o (nR _)⟩;rw [HTA.o,oI] at q1;subst q1;rw [HTI.o,oI] at q2;subst q2;exact ⟨ca,cc,xa,xc,rfl,HSC7.o.c.set5 (col_no HZ7.o HSC7.o.c),HSC7.o.x.set5 (ix_no HZ7.o HSC7.o.x)⟩
 ·have hn:isNm nm=false:=by simpa using hn
  have hta:tAt T nm=none:=by
   cases hta:tAt T nm with
   | none=>rfl
   | some i =>
    obtain ⟨t,hti,htn,htm⟩:=aAv hta;have:=nm_of (HI.o.ok t htm);rw [htn,hn] at this;cases this
  have HTA:=aAb hta;rw [hn];have t0:w2.cell? ⟨R,0,none⟩=some (.pointer none):=aAa HZ2.o;have tf0:w2.frozen? ⟨R,0,none⟩=false:=aAg HZ2.o;have t1:w2.cell? ⟨R,1,none⟩=some (.int .u8 0):=aAa HZ2.o;have tf1:w2.frozen? ⟨R,1,none⟩=false:=aAg HZ2.o;have t2:w2.cell? ⟨R,2,none⟩=some (.string ⟨#[]⟩):=aAa HZ2.o;have tf2:w2.frozen? ⟨R,2,none⟩=false:=aAg HZ2.o;have t3:w2.cell? ⟨R,3,none⟩=some (.slice none 0 0):=aAa HZ2.o;have tf3:w2.frozen? ⟨R,3,none⟩=false:=aAg HZ2.o;have t4:w2.cell? ⟨R,4,none⟩=some (.slice none 0 0):=aAa HZ2.o;have tf4:w2.frozen? ⟨R,4,none⟩=false:=aAg HZ2.o;clear hn hta;go_wp2;(try simp only [Exit.inBlock,Exit.then]);refine bodyPost_ret (aEr results41 _ _ R _ _ _ _ _ _ _ rfl (aJb HZ2.o)) rfl ?_;exact ⟨⟨fun _=>rfl,fun i t q=>by rw [HTA.o] at q;cases q⟩,aHj HB2.o (nR _)⟩
end Go.Proofs.YtdpdjpkmndnaaaaGreat
set_option linter.unusedVariables false
namespace Go.Proofs.YtdpdjpkmndnaaaaGreat
open _root_.Go.Proofs.Tryz
variable {i:Nat} {r:List Val} {s:Sch} {x:Val}
def insO (T:List Tbl) (nm:ByteArray) (r:List Val):Out:=match tAt T nm with
 | none=>⟨T,[],60⟩
 | some i=>match T[i]? with
  | none=>⟨T,[],60⟩
  | some t=>if t.s.fits r≠0 then ⟨T,[],t.s.fits r⟩ else if (rowAt t.rows (fst r)).isSome then ⟨T,[],63⟩ else if 64<=t.rows.length then ⟨T,[],2⟩ else if clash t.s t.rows r then ⟨T,[],64⟩ else ⟨setT T i t (insV r t.rows),laidR i t.s r,0⟩
def cutV (x:Val) (rows:List (List Val)):List (List Val):=rows.filter fun r=>decide (fst r≠x)
def delO (T:List Tbl) (nm:ByteArray) (x:Val):Out:=match tAt T nm with
 | none=>⟨T,[],60⟩
 | some i=>match T[i]? with
  | none=>⟨T,[],60⟩
  | some t=>if x.err≠0 then ⟨T,[],62⟩ else match rowAt t.rows x with
   | none=>⟨T,[],4⟩
   | some r=>⟨setT T i t (cutV x t.rows),goneR i t.s r,0⟩
def updO (T:List Tbl) (nm:ByteArray) (r:List Val):Out:=match tAt T nm with
 | none=>⟨T,[],60⟩
 | some i=>match T[i]? with
  | none=>⟨T,[],60⟩
  | some t=>if t.s.fits r≠0 then ⟨T,[],t.s.fits r⟩ else match rowAt t.rows (fst r) with
   | none=>⟨T,[],4⟩
   | some o=>if clash t.s t.rows r then ⟨T,[],64⟩ else ⟨setT T i t (insV r (cutV (fst r) t.rows)),goneR i t.s o++laidR i t.s r,0⟩
def creO (T:List Tbl) (s:Sch):Out:=if s.ok=false then ⟨T,[],61⟩ else if (tAt T s.nm).isSome then ⟨T,[],60⟩ else if 4<=T.length then ⟨T,[],2⟩ else ⟨T++[⟨s,[]⟩],[⟨0,slK s.nm,T.length::encS s,false⟩],0⟩
theorem laid_uni (hs:s.ok=true):(laidR i s r).Pairwise fun x y=>x.key≠y.key:=List.pairwise_map.2 (keys_uni hs)
theorem gone_uni (hs:s.ok=true):(goneR i s r).Pairwise fun x y=>x.key≠y.key:=List.pairwise_map.2 (keys_uni hs)
theorem laid_sp:∀ c∈laidR i s r,c.sp=1:=by
 intro c hc;obtain ⟨k,_,rfl⟩:=aBn.1 hc;rfl
theorem gone_sp:∀ c∈goneR i s r,c.sp=1:=by
 intro c hc;obtain ⟨k,_,rfl⟩:=aG3.1 hc;rfl
section
variable {cs:List Ch} {T:List Tbl} {i:Nat} {t:Tbl} {r:List Val}
theorem fst_ne_cmp {a b:List Val} (hs:s.ok=true) (ha:RowOk s a) (hb:RowOk s b) (h:fst a≠fst b):cmpB (fst a).bytes (fst b).bytes≠0:=by
 intro e;have va:=ha.val (ha.fmem hs);have vb:=hb.val (hb.fmem hs);exact h (bytes_inj va.1 va.2.1 vb.1 vb.2.1 (aDd e))
theorem fst_inj (I:Inv cs T) (h:t∈T) {a b:List Val} (ha:a∈t.rows) (hb:b∈t.rows) (e:fst a=fst b):a=b:=by
 have hp:=I.srt t h
 revert ha hb
 generalize t.rows=l at hp;intro ha hb
 induction l with
 | nil=>cases ha
 | cons d l ih =>
  obtain ⟨h1,h2⟩:=List.pairwise_cons.1 hp;have lt:∀ y∈l,fst d≠fst y:=fun y hy q=>by have:=h1 y hy;rw [q,aAr] at this;omega
  rcases List.mem_cons.1 ha with e1 | ha2<;>rcases List.mem_cons.1 hb with e2 | hb2
  ·rw [e1,e2]
  ·rw [e1] at e;exact absurd e (lt b hb2)
  ·rw [e2] at e;exact absurd e.symm (lt a ha2)
  ·exact ih h2 ha2 hb2
theorem Inv.ins (I:Inv cs T) (h:T[i]?=some t) (hr:RowOk t.s r) (hn:∀ o∈t.rows,fst o≠fst r) (hl:t.rows.length<64) (hc:∀ x∈t.s.xs,x.2=true->(col r x.1).1≠0->∀ o∈t.rows,col o x.1≠col r x.1):Inv (cs++laidR i t.s r) (setT T i t (insV r t.rows)):=by
 have hs:=I.ok t (at_mem h);have hrow:=I.row t (at_mem h);refine I.change h laid_sp (by rw [aFk];omega) (fun q hq=>?_) (insV_srt (I.srt t (at_mem h)) fun d hd=>fst_ne_cmp hs hr (hrow d hd) fun e=>hn d hd e.symm) (fun x hx h1 a ha b hb h2 h3=>?_) (fun x=>?_)
 ·rcases aCi.1 hq with rfl | hq
  ·exact hr
  ·exact hrow q hq
 ·rcases aCi.1 ha with rfl | ha<;>rcases aCi.1 hb with rfl | hb
  ·rfl
  ·exact absurd h3.symm (hc x hx h1 h2 b (by assumption))
  ·exact absurd h3 (hc x hx h1 (by rw [<-h3];exact h2) a (by assumption))
  ·exact I.uni t (at_mem h) x hx h1 a ha b hb h2 h3
 ·rw [live_many _ laid_sp (laid_uni hs),I.l1 x];constructor
  ·rintro (⟨hx,_⟩ | ⟨⟨j,u,h2,q,hq,hx⟩,_⟩)
   ·exact Or.inl ⟨r,aCi.2 (Or.inl rfl),hx⟩
   ·by_cases e:j=i
    ·subst e;rw [h] at h2;cases h2;exact Or.inl ⟨q,aCi.2 (Or.inr hq),hx⟩
    ·exact Or.inr ⟨j,u,e,h2,q,hq,hx⟩
  ·have far:∀ {j:Nat} {u:Tbl} {q:List Val},T[j]?=some u->q∈u.rows->x∈laidR j u.s q->∀ c∈laidR i t.s r,x.key≠c.key:=by
    intro j u q h2 hq hx c hc e;obtain ⟨k,hk,rfl⟩:=aBn.1 hx;obtain ⟨k',hk',rfl⟩:=aBn.1 hc;simp only at e;subst e;obtain ⟨e1,e2⟩:=keys_dis (I.ok u (at_mem h2)) hs (I.row u (at_mem h2) q hq) hr hk hk';subst e1;rw [h] at h2;cases h2;exact hn q hq e2
   rintro (⟨q,hq,hx⟩ | ⟨j,u,hj,h2,q,hq,hx⟩)
   ·rcases aCi.1 hq with rfl | hq
    ·refine Or.inl ⟨hx,?_⟩;obtain ⟨k,_,rfl⟩:=aBn.1 hx;rfl
    ·exact Or.inr ⟨⟨i,t,h,q,hq,hx⟩,far h hq hx⟩
   ·exact Or.inr ⟨⟨j,u,h2,q,hq,hx⟩,far h2 hq hx⟩
theorem aBx {rows:List (List Val)} {r:List Val}:r∈cutV x rows↔r∈rows/\fst r≠x:=by
 unfold cutV;rw [List.mem_filter];simp
theorem Inv.del (I:Inv cs T) (h:T[i]?=some t) (hr:r∈t.rows):Inv (cs++goneR i t.s r) (setT T i t (cutV (fst r) t.rows)):=by
 have hs:=I.ok t (at_mem h);have hrow:=I.row t (at_mem h);have cnt:=I.cnt t (at_mem h);have fl:=List.length_filter_le (fun q=>decide (fst q≠fst r)) t.rows;refine I.change h gone_sp (by unfold cutV;omega) (fun q hq=>hrow q (aBx.1 hq).1) ((I.srt t (at_mem h)).filter _) (fun x hx h1 a ha b hb h2 h3=>I.uni t (at_mem h) x hx h1 a (aBx.1 ha).1 b (aBx.1 hb).1 h2 h3) (fun x=>?_);rw [live_many _ gone_sp (gone_uni hs),I.l1 x];constructor
 ·rintro (⟨hx,hg⟩ | ⟨⟨j,u,h2,q,hq,hx⟩,hf⟩)
  ·obtain ⟨k,_,rfl⟩:=aG3.1 hx;cases hg
  ·by_cases e:j=i
   ·subst e;rw [h] at h2;cases h2;refine Or.inl ⟨q,aBx.2 ⟨hq,fun e=>?_⟩,hx⟩;have e2:=fst_inj I (at_mem h) hq hr e;subst e2;obtain ⟨k,hk,rfl⟩:=aBn.1 hx;exact hf ⟨1,k,[],true⟩ (aG3.2 ⟨k,hk,rfl⟩) rfl
   ·exact Or.inr ⟨j,u,e,h2,q,hq,hx⟩
 ·have far:∀ {j:Nat} {u:Tbl} {q:List Val},T[j]?=some u->q∈u.rows->x∈laidR j u.s q->(j=i->fst q≠fst r)->∀ c∈goneR i t.s r,x.key≠c.key:=by
   intro j u q h2 hq hx hne c hc e;obtain ⟨k,hk,rfl⟩:=aBn.1 hx;obtain ⟨k',hk',rfl⟩:=aG3.1 hc;simp only at e;subst e;obtain ⟨e1,e2⟩:=keys_dis (I.ok u (at_mem h2)) hs (I.row u (at_mem h2) q hq) (hrow r hr) hk hk';exact hne e1 e2
  rintro (⟨q,hq,hx⟩ | ⟨j,u,hj,h2,q,hq,hx⟩)
  ·exact Or.inr ⟨⟨i,t,h,q,(aBx.1 hq).1,hx⟩,far h (aBx.1 hq).1 hx fun _=>(aBx.1 hq).2⟩
  ·exact Or.inr ⟨⟨j,u,h2,q,hq,hx⟩,far h2 hq hx fun e=>absurd e hj⟩
theorem aH4 (hs:s.ok=true) (hok:∀ x∈r,x.ok) (h:s.fits r=0):RowOk s r :=
 ⟨(Sch.fit_row hs h).1,h,hok,(Sch.fit_row hs h).2⟩
theorem Inv.insO (I:Inv cs T) (nm:ByteArray) (hok:∀ x∈r,x.ok):Inv (cs++(insO T nm r).m) (insO T nm r).T:=by
 have no:Inv (cs++[]) T:=by rw [List.append_nil];exact I
 unfold Go.Proofs.YtdpdjpkmndnaaaaGreat.insO;split
 ·exact no
 ·split
  ·exact no
  ·rename_i i _ t h
   split
   ·exact no
   ·rename_i hf
    have hf:t.s.fits r=0:=Decidable.of_not_not hf;split
    ·exact no
    ·rename_i ha
     split
     ·exact no
     ·split
      ·exact no
      ·rename_i hl hc
       have hn:∀ o∈t.rows,fst o≠fst r:=aIt (by cases e:rowAt t.rows (fst r) with | none=>rfl | some q=>rw [e] at ha;exact absurd rfl ha);refine I.ins h (aH4 (I.ok t (at_mem h)) hok hf) hn (by omega) fun x hx h1 h2 o ho e=>?_
       exact hn o ho (clash_no (by simpa using hc) x hx h1 h2 o ho e)
theorem Inv.delO (I:Inv cs T) (nm:ByteArray) (x:Val):Inv (cs++(delO T nm x).m) (delO T nm x).T:=by
 have no:Inv (cs++[]) T:=by rw [List.append_nil];exact I
 unfold Go.Proofs.YtdpdjpkmndnaaaaGreat.delO;split
 ·exact no
 ·split
  ·exact no
  ·rename_i i _ t h
   split
   ·exact no
   ·split
    ·exact no
    ·rename_i r hr
     obtain ⟨h1,h2⟩:=aBq hr;subst h2;exact I.del h h1
theorem setT_twice {T:List Tbl} {i:Nat} {t:Tbl} {R R':List (List Val)}:setT (setT T i t R) i ⟨t.s,R⟩ R'=setT T i t R':=by
 unfold setT;rw [List.set_set]
theorem cut_len {x:Val}:∀ {rows:List (List Val)} {r:List Val},r∈rows->fst r=x->(cutV x rows).length<rows.length
 | d::l,r,h,e=>by
  unfold cutV
  rcases List.mem_cons.1 h with rfl | h
  ·rw [List.filter_cons_of_neg (by simp [e])]
   have:=List.length_filter_le (fun q=>decide (fst q≠x)) l
   simp only [List.length_cons]
   omega
  ·have ih:=cut_len h e
   unfold cutV at ih
   by_cases q:fst d≠x
   ·rw [List.filter_cons_of_pos (by simp [q])]
    simp only [List.length_cons]
    omega
   ·rw [List.filter_cons_of_neg (by simpa using q)]
    simp only [List.length_cons]
    omega
theorem Inv.updO (I:Inv cs T) (nm:ByteArray) (hok:∀ x∈r,x.ok):Inv (cs++(updO T nm r).m) (updO T nm r).T:=by
 have no:Inv (cs++[]) T:=by rw [List.append_nil];exact I
 unfold Go.Proofs.YtdpdjpkmndnaaaaGreat.updO;split
 ·exact no
 ·split
  ·exact no
  ·rename_i i _ _ t h
   split
   ·exact no
   ·rename_i hf
    have hf:t.s.fits r=0:=Decidable.of_not_not hf;split
    ·exact no
    ·rename_i o ho
     obtain ⟨h1,h2⟩:=aBq ho;split
     ·exact no
     ·rename_i hc
      have hc:clash t.s t.rows r=false:=by simpa using hc
      have hs:=I.ok t (at_mem h);have I1:=I.del h h1;rw [h2] at I1;have h3:(setT T i t (cutV (fst r) t.rows))[i]?=some ⟨t.s,cutV (fst r) t.rows⟩:=(aC5 h).2 (Or.inl ⟨rfl,rfl⟩);have hlt:=cut_len h1 h2;have hcn:=I.cnt t (at_mem h);have I2:=I1.ins h3 (r:=r) (aH4 hs hok hf) (fun q hq=>(aBx.1 hq).2) (by show (cutV (fst r) t.rows).length<64;omega) (fun x hx h5 h6 q hq e=>(aBx.1 hq).2 (clash_no hc x hx h5 h6 q (aBx.1 hq).1 e));rw [setT_twice,List.append_assoc] at I2;exact I2
theorem Inv.creO (I:Inv cs T) (s:Sch):Inv (cs++(creO T s).m) (creO T s).T:=by
 have no:Inv (cs++[]) T:=by rw [List.append_nil];exact I
 unfold Go.Proofs.YtdpdjpkmndnaaaaGreat.creO;split
 ·exact no
 ·rename_i hs
  split
  ·exact no
  ·rename_i ha
   split
   ·exact no
   ·rename_i hl
    have hs:s.ok=true:=by simpa using hs
    have hn:∀ t∈T,t.s.nm≠s.nm:=aGv (by cases e:Go.Proofs.YtdpdjpkmndnaaaaGreat.tAt T s.nm with | none=>rfl | some q=>rw [e] at ha;exact absurd rfl ha);have mem:∀ u∈T++[(⟨s,[]⟩:Tbl)],u∈T\/u=⟨s,[]⟩:=by
     intro u hu;rcases List.mem_append.1 hu with q | q
     ·exact Or.inl q
     ·exact Or.inr (List.mem_singleton.1 q)
    have at_:∀ {j:Nat} {u:Tbl},(T++[(⟨s,[]⟩:Tbl)])[j]?=some u↔T[j]?=some u\/(j=T.length/\u=⟨s,[]⟩):=by
     intro j u;by_cases q:j<T.length
     ·rw [List.getElem?_append_left q];exact ⟨Or.inl,fun h=>h.elim id fun h2=>by omega⟩
     ·rw [List.getElem?_append_right (by omega)];constructor
      ·intro h;have h2:=(lL h);simp only [List.length_singleton] at h2;have e:j=T.length:=by omega
       subst e;rw [Nat.sub_self] at h;exact Or.inr ⟨rfl,(Option.some.inj h).symm⟩
      ·rintro (h | ⟨h1,h2⟩)
       ·have:=(lL h);omega
       ·rw [h1,Nat.sub_self,h2];rfl
    refine ⟨by rw [lA,List.length_singleton];omega,fun u hu=>?_,fun j k a b ha hb hab=>?_,fun u hu=>?_,fun u hu=>?_,fun u hu=>?_,fun u hu=>?_,fun x=>?_,fun x=>?_⟩
    ·rcases mem u hu with hu | rfl
     ·exact I.ok u hu
     ·exact hs
    ·rcases at_.1 ha with h1 | ⟨h1,h2⟩<;>rcases at_.1 hb with h3 | ⟨h3,h4⟩
     ·exact I.nm j k a b h1 h3 hab
     ·rw [h4] at hab;exact absurd hab (hn a (at_mem h1))
     ·rw [h2] at hab;exact absurd hab.symm (hn b (at_mem h3))
     ·omega
    ·rcases mem u hu with hu | rfl
     ·exact I.row u hu
     ·intro r hr;cases hr
    ·rcases mem u hu with hu | rfl
     ·exact I.srt u hu
     ·exact List.Pairwise.nil
    ·rcases mem u hu with hu | rfl
     ·exact I.cnt u hu
     ·exact Nat.zero_le _
    ·rcases mem u hu with hu | rfl
     ·exact I.uni u hu
     ·intro x _ _ a ha;cases ha
    ·rw [aJp rfl,I.l0 x];constructor
     ·rintro (⟨rfl,_⟩ | ⟨⟨j,u,h1,rfl⟩,_⟩)
      ·exact ⟨T.length,_,at_.2 (Or.inr ⟨rfl,rfl⟩),rfl⟩
      ·exact ⟨j,u,at_.2 (Or.inl h1),rfl⟩
     ·rintro ⟨j,u,h1,rfl⟩;rcases at_.1 h1 with h1 | ⟨rfl,rfl⟩
      ·exact Or.inr ⟨⟨j,u,h1,rfl⟩,fun e=>hn u (at_mem h1) (slK_inj e)⟩
      ·exact Or.inl ⟨rfl,rfl⟩
    ·rw [aJr (show (0:Int)≠1 by decide),I.l1 x];constructor
     ·rintro ⟨j,u,h1,r,hr,hx⟩;exact ⟨j,u,at_.2 (Or.inl h1),r,hr,hx⟩
     ·rintro ⟨j,u,h1,r,hr,hx⟩;rcases at_.1 h1 with h1 | ⟨rfl,rfl⟩
      ·exact ⟨j,u,h1,r,hr,hx⟩
      ·cases hr
end
theorem Inv.nil:Inv [] []:=by
 refine ⟨by simp,by simp,fun i j t u h=>by simp at h,by simp,by simp,by simp,by simp,fun x=>?_,fun x=>?_⟩
 ·rw [live_nil];simp
 ·rw [live_nil];simp
end Go.Proofs.YtdpdjpkmndnaaaaGreat
set_option linter.unusedVariables false
namespace Go.Proofs.YtdpdjpkmndnaaaaGreat
open _root_.Go.Proofs.Tryz
variable {c d i j:Nat} {r:List Val} {rest:List Nat} {s:Sch} {x:Val}
theorem aAx (a b:Nat) (x y:List Nat):cmpB (a::x) (b::y)=if a<b then -1 else if b<a then 1 else cmpB x y:=rfl
theorem aG2 {A:List Nat}:inK (i::c::A) [i,c+1] (j::d::rest)=true↔j=i/\d=c/\0<=cmpB rest A:=by
 unfold inK;have hh:([i,c+1]:List Nat)≠[]:=by simp
 rw [decide_eq_false hh,Bool.false_or,Bool.and_eq_true,decide_eq_true_eq,decide_eq_true_eq,aAx,aAx,aAx,aAx];by_cases h1:j=i
 ·subst h1;rw [if_neg (Nat.lt_irrefl _),if_neg (Nat.lt_irrefl _),if_neg (Nat.lt_irrefl _),if_neg (Nat.lt_irrefl _)];by_cases h2:d=c
  ·subst h2;rw [if_neg (Nat.lt_irrefl _),if_neg (Nat.lt_irrefl _),if_pos (by omega)];constructor
   ·rintro ⟨a,_⟩;exact ⟨rfl,rfl,a⟩
   ·rintro ⟨_,_,a⟩;exact ⟨a,by decide⟩
  ·have he:=aFt rest;constructor
   ·rintro ⟨a,b⟩;exfalso
    split at a
    ·omega
    ·split at b
     ·omega
     ·split at b<;>omega
   ·rintro ⟨_,e,_⟩;exact absurd e h2
 ·constructor
  ·rintro ⟨a,b⟩;exfalso
   split at a
   ·omega
   ·split at b<;>(try split at b)<;>omega
  ·rintro ⟨e,_,_⟩;exact absurd e h1
theorem aJz {A E:List Nat}:inK (i::c::A) (i::c::E) (j::d::rest)=true↔j=i/\d=c/\0<=cmpB rest A/\cmpB rest E<0:=by
 unfold inK;have hh:(i::c::E:List Nat)≠[]:=by simp
 rw [decide_eq_false hh,Bool.false_or,Bool.and_eq_true,decide_eq_true_eq,decide_eq_true_eq,aAx,aAx,aAx,aAx];by_cases h1:j=i
 ·subst h1;rw [if_neg (Nat.lt_irrefl _),if_neg (Nat.lt_irrefl _),if_neg (Nat.lt_irrefl _),if_neg (Nat.lt_irrefl _)];by_cases h2:d=c
  ·subst h2;rw [if_neg (Nat.lt_irrefl _),if_neg (Nat.lt_irrefl _),if_neg (Nat.lt_irrefl _),if_neg (Nat.lt_irrefl _)];constructor
   ·rintro ⟨a,b⟩;exact ⟨rfl,rfl,a,b⟩
   ·rintro ⟨_,_,a,b⟩;exact ⟨a,b⟩
  ·constructor
   ·rintro ⟨a,b⟩;exfalso
    split at a
    ·omega
    ·split at b<;>(try split at b)<;>omega
   ·rintro ⟨_,e,_⟩;exact absurd e h2
 ·constructor
  ·rintro ⟨a,b⟩;exfalso
   split at a
   ·omega
   ·split at b<;>(try split at b)<;>omega
  ·rintro ⟨e,_,_⟩;exact absurd e h1
theorem cmp_apart:∀ {u v:List Nat},(∀ r,v≠u++r)->(∀ r,u≠v++r)->∃ s:Int,s≠0/\∀ f g,cmpB (u++f) (v++g)=s
 | [],v,h,_=>absurd rfl (h v)
 | a::u,[],_,h=>absurd rfl (h (a::u))
 | a::u,b::v,h1,h2=>by
  by_cases e:a=b
  ·subst e
   obtain ⟨s,h0,h⟩:=cmp_apart (u:=u) (v:=v) (fun r q=>h1 r (by rw [q];rfl)) (fun r q=>h2 r (by rw [q];rfl))
   refine ⟨s,h0,fun f g=>?_⟩
   rw [List.cons_append,List.cons_append,aAx,if_neg (Nat.lt_irrefl _),if_neg (Nat.lt_irrefl _)]
   exact h f g
  ·by_cases e2:a<b
   ·exact ⟨-1,by decide,fun f g=>by rw [List.cons_append,List.cons_append,aAx,if_pos e2]⟩
   ·exact ⟨1,by decide,fun f g=>by rw [List.cons_append,List.cons_append,aAx,if_neg e2,if_pos (by omega)]⟩
theorem aJ8:∀ (u f g:List Nat),cmpB (u++f) (u++g)=cmpB f g
 | [],_,_=>rfl
 | a::u,f,g=>by
  rw [List.cons_append,List.cons_append,aAx,if_neg (Nat.lt_irrefl _),if_neg (Nat.lt_irrefl _)]
  exact aJ8 u f g
theorem val_apart {y:Val} (hx:x.ok) (he:x.err=0) (hy:y.ok) (hf:y.err=0) (h:x≠y):∃ s:Int,s≠0/\∀ f g,cmpB (x.bytes++f) (y.bytes++g)=s :=
 cmp_apart (fun r q=>h (aG0 hx he hy hf r q)) (fun r q=>h (aG0 hy hf hx he r q).symm)
theorem val_span {y:Val} {f:List Nat} (hx:x.ok) (he:x.err=0) (hy:y.ok) (hf:y.err=0) (hff:cmpB f [255]<0):(0<=cmpB (x.bytes++f) y.bytes/\cmpB (x.bytes++f) (y.bytes++[255])<0)↔x=y:=by
 constructor
 ·rintro ⟨h1,h2⟩;refine Decidable.of_not_not fun hne=>?_
  obtain ⟨s,h0,h⟩:=val_apart hx he hy hf hne;have a:=h f [];rw [List.append_nil] at a;have b:=h f [255];omega
 ·intro e;subst e;constructor
  ·have:=aJ8 x.bytes f [];rw [List.append_nil] at this;rw [this];exact aFt f
  ·rw [aJ8];exact hff
theorem first_low {f:List Nat} (hx:x.ok) (he:x.err=0):cmpB (x.bytes++f) [255]<0:=by
 obtain ⟨a,l,e,_,h⟩:=v_ne hx he;rw [e,List.cons_append,aAx,if_pos (by omega)]
 decide
section
variable {cs:List Ch} {T:List Tbl} {i:Nat} {t:Tbl}
theorem aHw {x:Ch} (h:x∈laidR j s r):(x=⟨1,rk j (fst r),rowB r,false⟩)\/∃ c∈s.xs,x=⟨1,xk j c.1 r,rowB r,false⟩:=by
 obtain ⟨k,hk,rfl⟩:=aBn.1 h;rcases List.mem_cons.1 hk with rfl | hk
 ·exact Or.inl rfl
 ·obtain ⟨c,hc,rfl⟩:=List.mem_map.1 hk;exact Or.inr ⟨c,hc,rfl⟩
theorem Inv.rows_from (I:Inv cs T) (h:T[i]?=some t) (A:List Nat):(liveC cs 1).filter (fun c=>inK (i::0::A) [i,1] c.key)=(t.rows.filter fun r=>decide (0<=cmpB (fst r).bytes A)).map fun r=>⟨1,rk i (fst r),rowB r,false⟩:=by
 refine SrC.uniq ((aI7 cs 1).filter _) ?_ fun x=>?_
 ·unfold SrC;rw [List.pairwise_map];refine ((I.srt t (at_mem h)).filter _).imp ?_;intro a b hab;show cmpB (rk i (fst a)) (rk i (fst b))<0;unfold rk;rw [aAx,if_neg (Nat.lt_irrefl _),if_neg (Nat.lt_irrefl _),aAx,if_neg (Nat.lt_irrefl _),if_neg (Nat.lt_irrefl _)];exact hab
 ·rw [List.mem_filter,I.l1 x,List.mem_map];constructor
  ·rintro ⟨⟨j,u,h2,r,hr,hx⟩,hk⟩;rcases aHw hx with rfl | ⟨c,hc,rfl⟩
   ·unfold rk at hk;obtain ⟨e1,_,e3⟩:=aG2.1 hk;subst e1;rw [h] at h2;cases h2;exact ⟨r,List.mem_filter.2 ⟨hr,decide_eq_true e3⟩,rfl⟩
   ·exfalso;unfold xk at hk;obtain ⟨_,e2,_⟩:=aG2.1 hk;have:=(Sch.xcol (I.ok u (at_mem h2)) c hc).1;omega
  ·rintro ⟨r,hr,rfl⟩;obtain ⟨h1,h2⟩:=List.mem_filter.1 hr;refine ⟨⟨i,t,h,r,h1,aBn.2 ⟨_,List.mem_cons_self,rfl⟩⟩,?_⟩;unfold rk;exact aG2.2 ⟨rfl,rfl,of_decide_eq_true h2⟩
theorem Inv.count (I:Inv cs T) (h:T[i]?=some t):(rngC cs 1 [i,0] [i,1] 64).length=t.rows.length:=by
 rw [aF4,I.rows_from h [],List.length_take,List.length_map];have e:(t.rows.filter fun r=>decide (0<=cmpB (fst r).bytes []))=t.rows:=by
  rw [List.filter_eq_self];intro r _;exact decide_eq_true (aFt _)
 rw [e];have:=I.cnt t (at_mem h);omega
theorem Inv.stand (I:Inv cs T) (h:T[i]?=some t) {c:Nat} {v:Val} {x:Idx} (hx:x∈t.s.xs) (hc:x.1=(c:Int)) (hv:v.ok) (he:v.err=0):∀ y,y∈(liveC cs 1).filter (fun d=>inK (i::c::v.bytes) (i::c::(v.bytes++[255])) d.key)↔∃ o∈t.rows,col o x.1=v/\y=⟨1,xk i x.1 o,rowB o,false⟩:=by
 intro y;have hs:=I.ok t (at_mem h);have hc1:=(Sch.xcol hs x hx).1;rw [List.mem_filter,I.l1 y];constructor
 ·rintro ⟨⟨j,u,h2,r,hr,hy⟩,hk⟩;have hu:=I.ok u (at_mem h2);have hro:=I.row u (at_mem h2) r hr;rcases aHw hy with rfl | ⟨d,hd,rfl⟩
  ·exfalso;unfold rk at hk;obtain ⟨_,e2,_⟩:=aJz.1 hk;omega
  ·unfold xk at hk;obtain ⟨e1,e2,e3⟩:=aJz.1 hk;subst e1;rw [h] at h2;cases h2;have hd1:=(Sch.xcol hs d hd).1;have e4:d.1=x.1:=by omega
   have v1:=hro.val (hro.cmem hs hd);have v2:=hro.val (hro.fmem hs);have hcol:col r d.1=v:=(val_span v1.1 v1.2.1 hv he (by have:=first_low (f:=[]) v2.1 v2.2.1;rw [List.append_nil] at this;exact this)).1 e3;exact ⟨r,hr,by rw [<-e4];exact hcol,by rw [<-e4]⟩
 ·rintro ⟨o,ho,hcol,rfl⟩;have hro:=I.row t (at_mem h) o ho;have v1:=hro.val (hro.cmem hs hx);have v2:=hro.val (hro.fmem hs);refine ⟨⟨i,t,h,o,ho,aBn.2 ⟨_,List.mem_cons_of_mem _ (List.mem_map.2 ⟨x,hx,rfl⟩),rfl⟩⟩,?_⟩;unfold xk;have:=(val_span (f:=(fst o).bytes) v1.1 v1.2.1 hv he (by have:=first_low (f:=[]) v2.1 v2.2.1;rw [List.append_nil] at this;exact this)).2 hcol;exact aJz.2 ⟨rfl,by omega,this⟩
theorem Inv.stand_one (I:Inv cs T) (h:T[i]?=some t) {c:Nat} {v:Val} {x:Idx} (hx:x∈t.s.xs) (hx2:x.2=true) (hc:x.1=(c:Int)) (hv:v.ok) (he:v.err=0) (hv0:v.1≠0) {o:List Val} (ho:o∈t.rows) (hco:col o x.1=v):rngC cs 1 (i::c::v.bytes) (i::c::(v.bytes++[255])) 1=[⟨1,xk i x.1 o,rowB o,false⟩]:=by
 rw [aF4];have e:(liveC cs 1).filter (fun d=>inK (i::c::v.bytes) (i::c::(v.bytes++[255])) d.key)=[⟨1,xk i x.1 o,rowB o,false⟩]:=by
  refine SrC.uniq ((aI7 cs 1).filter _) (by simp [SrC]) fun y=>?_
  rw [I.stand h hx hc hv he y,List.mem_singleton];constructor
  ·rintro ⟨o',ho',hc',rfl⟩;have:=I.uni t (at_mem h) x hx hx2 o' ho' o ho (by rw [hc'];exact hv0) (by rw [hc',hco]);rw [this]
  ·intro e;exact ⟨o,ho,hco,e⟩
 rw [e];rfl
theorem Inv.stand_none (I:Inv cs T) (h:T[i]?=some t) {c:Nat} {v:Val} {x:Idx} (hx:x∈t.s.xs) (hc:x.1=(c:Int)) (hv:v.ok) (he:v.err=0) (hn:∀ o∈t.rows,col o x.1≠v):rngC cs 1 (i::c::v.bytes) (i::c::(v.bytes++[255])) 1=[]:=by
 rw [aF4];have e:(liveC cs 1).filter (fun d=>inK (i::c::v.bytes) (i::c::(v.bytes++[255])) d.key)=[]:=by
  rw [List.eq_nil_iff_forall_not_mem];intro y hy;obtain ⟨o,ho,hc',_⟩:=(I.stand h hx hc hv he y).1 hy;exact hn o ho hc'
 rw [e];rfl
end
def clashX (rows:List (List Val)) (r:List Val) (x:Idx):Bool:=x.2 && (decide ((col r x.1).1≠0) && rows.any fun o=>decide (col o x.1=col r x.1) && decide (fst o≠fst r))
end Go.Proofs.YtdpdjpkmndnaaaaGreat
set_option maxRecDepth 100000
set_option maxHeartbeats 16000000
set_option linter.unusedVariables false
namespace Go.Proofs.YtdpdjpkmndnaaaaGreat
open Go.RowKit
theorem ba_ne {a b:ByteArray} (h:a≠b):(a != b)=true:=by
 cases a with
 | mk x=>cases b with
  | mk y =>
   show (!(x == y))=true;simp;intro q;exact h (by rw [q])
end Go.Proofs.YtdpdjpkmndnaaaaGreat
