import Derived.Test.YtlmaolfajcgmiaaGreatZ43
import Derived.Laws.Bits64b
set_option maxRecDepth 100000
set_option maxHeartbeats 16000000
set_option linter.unusedVariables false
namespace Go.Proofs.YtlmaolfajcgmiaaGreat
open Go.RowKit
theorem masks:mk8 85 8=6148914691236517205∧mk8 51 8=3689348814741910323∧mk8 15 8=1085102592571150095:=by decide
theorem ones_steps {x:Nat} (hx:x<18446744073709551616):∃ a1 b1 y1 a2 b2 y2 t3 y3 y4 y5 y6:Nat,
  bits BinOp.and IntKind.u64 ((x:Int) / 2) 6148914691236517205=(a1:Int)∧bits BinOp.and IntKind.u64 (x:Int) 6148914691236517205=(b1:Int)∧IntKind.u64.wrap ((a1:Int)+(b1:Int))=(y1:Int) ∧
  bits BinOp.and IntKind.u64 ((y1:Int) / 4) 3689348814741910323=(a2:Int)∧bits BinOp.and IntKind.u64 (y1:Int) 3689348814741910323=(b2:Int)∧IntKind.u64.wrap ((a2:Int)+(b2:Int))=(y2:Int) ∧
  IntKind.u64.wrap ((y2:Int) / 16+(y2:Int))=(t3:Int)∧bits BinOp.and IntKind.u64 (t3:Int) 1085102592571150095=(y3:Int) ∧
  IntKind.u64.wrap ((y3:Int)+(y3:Int) / 256)=(y4:Int)∧IntKind.u64.wrap ((y4:Int)+(y4:Int) / 65536)=(y5:Int)∧IntKind.u64.wrap ((y5:Int)+(y5:Int) / 4294967296)=(y6:Int)∧IntKind.i64.wrap (y6:Int)=(y6:Int)∧bits BinOp.and IntKind.i64 (y6:Int) 127=((bsum x.testBit 64:Nat):Int):=by
 have cA:∀ (a b:Nat),a<18446744073709551616→b<18446744073709551616→bits BinOp.and IntKind.u64 (a:Int) (b:Int)=((a &&& b:Nat):Int):=fun a b h1 h2=>bits_and_u64_nat a b h1 h2
 have wU:∀ a:Nat,a<18446744073709551616→IntKind.u64.wrap (a:Int)=(a:Int):=fun a h=>by rw [IntKind.wrap_u64];omega
 have l1:x / 2 &&& 6148914691236517205≤6148914691236517205:=Nat.and_le_right
 have l2:x &&& 6148914691236517205≤6148914691236517205:=Nat.and_le_right
 obtain ⟨y1,hy1⟩:∃ y,y=(x / 2 &&& 6148914691236517205)+(x &&& 6148914691236517205):=⟨_,rfl⟩
 have b1:y1<18446744073709551616:=by omega
 have l3:y1 / 4 &&& 3689348814741910323≤3689348814741910323:=Nat.and_le_right
 have l4:y1 &&& 3689348814741910323≤3689348814741910323:=Nat.and_le_right
 obtain ⟨y2,hy2⟩:∃ y,y=(y1 / 4 &&& 3689348814741910323)+(y1 &&& 3689348814741910323):=⟨_,rfl⟩
 have b2:y2≤7378697629483820646:=by omega
 obtain ⟨y3,hy3⟩:∃ y,y=(y2 / 16+y2) &&& 1085102592571150095:=⟨_,rfl⟩
 have e3:y3=st3 8 (st2 8 (st1 8 x)):=by
  unfold st3 st2 st1
  rw [masks.1,masks.2.1,masks.2.2,←hy1,←hy2,hy3]
 rw [st_all hx] at e3
 obtain ⟨y4,hy4⟩:∃ y,y=y3+y3 / 256:=⟨_,rfl⟩
 obtain ⟨y5,hy5⟩:∃ y,y=y4+y4 / 65536:=⟨_,rfl⟩
 obtain ⟨y6,hy6⟩:∃ y,y=y5+y5 / 4294967296:=⟨_,rfl⟩
 obtain ⟨f1,f2⟩:=fold_bytes (aEb _) (aEb _) (aEb _) (aEb _) (aEb _) (aEb _) (aEb _) (aEb _) e3 hy4 hy5 hy6
 rw [←bytes_bits x] at f1
 have b5:y5≤y6:=by rw [hy6];exact Nat.le_add_right _ _
 have b4:y4≤y5:=by rw [hy5];exact Nat.le_add_right _ _
 clear e3
 refine ⟨x / 2 &&& 6148914691236517205,x &&& 6148914691236517205,y1,y1 / 4 &&& 3689348814741910323,y1 &&& 3689348814741910323,y2,y2 / 16+y2,y3,y4,y5,y6,?_,cA x 6148914691236517205 hx (by decide),?_,?_,cA y1 3689348814741910323 b1 (by decide),?_,?_,?_,?_,?_,?_,?_,?_⟩
 ·rw [show (x:Int) / 2=((x / 2:Nat):Int) by simp];exact cA (x / 2) 6148914691236517205 (by omega) (by decide)
 ·rw [←Int.natCast_add,←hy1];exact wU y1 b1
 ·rw [show (y1:Int) / 4=((y1 / 4:Nat):Int) by simp];exact cA (y1 / 4) 3689348814741910323 (by omega) (by decide)
 ·rw [←Int.natCast_add,←hy2];exact wU y2 (by omega)
 ·rw [show (y2:Int) / 16=((y2 / 16:Nat):Int) by simp,←Int.natCast_add];exact wU _ (by omega)
 ·rw [hy3];exact cA (y2 / 16+y2) 1085102592571150095 (by omega) (by decide)
 ·rw [show (y3:Int) / 256=((y3 / 256:Nat):Int) by simp,←Int.natCast_add,←hy4];exact wU y4 (by omega)
 ·rw [show (y4:Int) / 65536=((y4 / 65536:Nat):Int) by simp,←Int.natCast_add,←hy5];exact wU y5 (by omega)
 ·rw [show (y5:Int) / 4294967296=((y5 / 4294967296:Nat):Int) by simp,←Int.natCast_add,←hy6];exact wU y6 (by omega)
 ·rw [IntKind.wrap_i64];omega
 ·rw [i64_mask (y6:Int) 7 (by omega) 127 (by decide),←f1]
  simp
theorem ones_any {x:Nat} (hx:x<18446744073709551616) (w:World):Calls Tryz.prog 90 #[.int .u64 (x:Int)] w fun e w'=>e=.returned (.int .i64 ((bsum x.testBit 64:Nat):Int))∧w'=w:=by
 obtain ⟨a1,b1,y1,a2,b2,y2,t3,y3,y4,y5,y6,h1,h2,h3,h4,h5,h6,h7,h8,h9,h10,h11,h12,h13⟩:=ones_steps hx
 generalize bsum x.testBit 64=r at *
 go_enter Tryz.func90,Tryz.ntmps90
 go_wp2
 go_ret
 exact ⟨rfl,rfl⟩
def cnw (ps:List Nat) (n:Nat):Nat:=((ps.take n).map fun x=>bsum x.testBit 64).sum
theorem cnw_succ {ps:List Nat} {n x:Nat} (h:ps[n]?=some x):cnw ps (n+1)=cnw ps n+bsum x.testBit 64:=by
 unfold cnw
 rw [List.take_add_one,h]
 simp
theorem cnw_le (ps:List Nat):∀ n:Nat,cnw ps n≤64*n
 | 0=>by simp [cnw]
 | n+1=>by
  have:=cnw_le ps n
  cases h:ps[n]? with
  | none =>
   have:cnw ps (n+1)=cnw ps n:=by unfold cnw;rw [List.take_add_one,h];simp
   omega
  | some x =>
   rw [cnw_succ h]
   have:=bsum_le x.testBit 64
   omega
theorem count_any {g o:Nat} {w:World} {cs:Array Value} {t:TypeId} {ps:List Nat} (hg:w.heap[g]?=some (.cells cs t (0,0))) (hw:Wd cs o ps) :
  Calls Tryz.prog 57 #[.pointer (some ⟨g,o,none⟩)] w fun e w'=>e=.returned (.int .i64 ((cnw ps 64:Nat):Int))∧w'=w:=by
 have HC:Hid (∀ i x:Nat,ps[i]?=some x→w.cell? ⟨g,o+i,none⟩=some (.int .u64 (x:Int))):=fun i x hi=>(aAa hg).trans (hw.2.2 i x hi)
 have HL:Hid (ps.length=64):=hw.1
 have HB:Hid (∀ x∈ps,x<18446744073709551616):=hw.2.1
 clear hg hw
 go_enter Tryz.func57,Tryz.ntmps57
 go_wp2_with fail
 go_loopw [3,5,7] (fun n _ i wx=>wx=w∧∃ j:Nat,j≤64∧i=.int .i64 (j:Int)∧n=.int .i64 ((cnw ps j:Nat):Int)) (fun _ _ i _=>64-(intOf i).toNat)
 case atStart=>exact ⟨rfl,0,by omega,rfl,rfl⟩
 case round =>
  obtain ⟨rfl,j,hj,rfl,rfl⟩:=hrel
  by_cases q:j<64
  ·have i1:(j:Int)<64:=by omega
   obtain ⟨x,hx⟩:∃ x,ps[j]?=some x:=⟨_,gE (by have:=HL.out;omega)⟩
   have c0:=HC.out j x hx
   have hb:=hide (HB.out x (mG hx))
   go_wp2_with fail
   refine (ones_any hb.out wr).mono ?_
   rintro e w1 ⟨rfl,hw⟩
   have hw:=hw.symm
   subst hw
   have hle:=cnw_le ps (j+1)
   have hsu:=cnw_succ hx
   generalize bsum x.testBit 64=r at *
   generalize hcj:cnw ps j=a at *
   generalize hcj1:cnw ps (j+1)=a1 at *
   have i2:(a:Int)+(r:Int)<9223372036854775808:=by omega
   have i3:0≤(a:Int):=by omega
   have i4:0≤(r:Int):=by omega
   go_wp2
   go_roundw
   case rel=>exact ⟨trivial,j+1,by omega,by go_num,by rw [hcj1,hsu];go_num⟩
   case measure=>simp [intOf];omega
  ·obtain rfl:j=64:=by omega
   go_wp2
   go_ret
   exact ⟨rfl,rfl⟩
theorem hsP_out {ps:List Nat} (h:ps.length=64) {j:Nat} (hj:¬ j<4096):hsP ps j=false:=by
 unfold hsP
 rw [List.getD_eq_getElem?_getD,List.getElem?_eq_none (by omega)]
 simp
theorem PgS.keep {ps L gone:List Nat} (h:PgS ps L) (hgo:∀ x∈gone,x<4096):PgS (jnP (gone.foldl drP ps) ps) L:=by
 have hf:=fun j=>hs_fold gone ps j h.1 hgo
 have hl:=aGw (hf 0).2 h.1
 refine ⟨hl,h.2.1,h.2.2.1,fun j=>?_⟩
 by_cases hj:j<4096
 ·rw [hs_jn (hf 0).2 h.1 hj,(hf j).1,h.2.2.2 j]
  cases decide (j∈L)<;>simp
 ·rw [hsP_out hl hj,←h.2.2.2 j,hsP_out h.1 hj]
theorem PgS.cnw {ps l:List Nat} (h:PgS ps l):cnw ps 64=l.length:=by
 have h9:=h.count
 unfold Go.Proofs.YtlmaolfajcgmiaaGreat.cnw
 rw [List.take_of_length_le (by rw [h.1];exact nR _)]
 exact h9
theorem makeRoom_no [Gd] {B p q px g m:Nat} {s:DS} {t:PS} {w:World} {cs:Array Value} {now last:StT} {rv:Value} {left d n:Int} {ended:Bool} {gone:List Nat} (hST:ST B p q s t w) (hg:w.heap[g]?=some (.cells cs 87 (0,0))) (hT:TV cs p q now last (.slice none 0 0) left ended) (hE:EV B w px q rv d n gone) (hf:FrC w rv m) (hm:cntF t.st<m) (hgo:∀ x∈gone,x<4096) (hgl:gone.length<100000) (hcn:s.n<m+2+cnw (jnP (gone.foldl drP now.pgs) last.pgs) 64) (hn4:s.n≤4096) :
  Calls Tryz.prog 69 #[.pointer (some ⟨g,0,none⟩),.pointer (some ⟨px,0,none⟩)] w fun e w'=>e=.returned (.bool false)∧Below w.heap.size w w':=by
 have lt:∀ {k:Nat} {o:Obj} {ww:World},ww.heap[k]?=some o→k<ww.heap.size:=fun e=>(lO e)
 have hz:∀ ww,(zeroValue 82).run Tryz.prog ww=.ok (.agg z76) ww:=fun ww=>by kernel_rfl
 obtain ⟨gv,h1,h2⟩:=hE.hx
 obtain ⟨ty,pv,K,rc,rfl,hmt,hcf,hcl⟩:=hf
 have e1:w.cell? ⟨px,1,none⟩=some (.iface ty pv):=aAa h1
 have hgl1:=lt hg
 have hm1:=hmt w
 have hm2:=hcf w
 have HCL:=hide hcl
 have HST:=hide hST
 have HG:=hide hg
 have HT:=hide hT
 have HPX:=hide h1
 have HGO:=hide hgo
 have HGN:=hide hgl
 obtain ⟨ga,gc,rfl⟩:=aAe h2
 have HOW:=hide h2
 have hle:¬ (m:Int)≤((cntF t.st:Nat):Int):=by omega
 have hcl64:=cnw_le (jnP (gone.foldl drP now.pgs) last.pgs) 64
 generalize hC:cnw (jnP (gone.foldl drP now.pgs) last.pgs) 64=C at *
 have i1:((s.n:Nat):Int)≤4096:=by omega
 have i2:(C:Int)≤4096:=by omega
 have i3:¬ (m:Int)≤((s.n:Nat):Int)-2-(C:Int):=by omega
 have HCC:=hide hC
 clear h1 h2 hmt hcf hcl hST hg hT hE hgo hgl hcn hm hC hcl64 hn4
 go_enter Tryz.func69,Tryz.ntmps69
 go_wp2_with fail
 refine HCL.out.mono ?_
 rintro e w1 ⟨rfl,hb1⟩
 have HB1:=hide hb1
 have hg1:=(hb1.block g hgl1).trans HG.out
 have r1:w1.cell? ⟨g,1,none⟩=some (.pointer (some ⟨q,0,none⟩)):=(aAa hg1).trans HT.out.c1
 have HL:=hide (aCw (HST.out.later hb1))
 have HG1:=hide hg1
 clear hb1 hg1 e1 hm1 hm2
 go_wp2_with fail
 refine HL.out.mono ?_
 rintro e w2 ⟨rfl,hw⟩
 have hw:=hw.symm
 subst hw
 have hsz:(cutW cs 5).size=64:=aFg (by rw [HT.out.sz];decide)
 have HLD:=hide (aCv (w:=w1) (g:=g) (o:=5) (ty:=82) (cs:=cutW cs 5) (fun j v hv=>(aAa HG1.out).trans (aG5 hv)) Tryz.underlying82 rfl (by rw [hsz];exact aB3))
 have x1:(w1.alloc (.cells z76 82)).heap[w1.heap.size]?=some (.cells z76 82 (0,0)):=heap_alloc_new w1 _
 have hst:=aA5 (o:=0) x1 (show 0+(cutW cs 5).size≤64 by omega) (HT.out.nw.cut.one hsz)
 rw [aB5 (show (cutW cs 5).size=64 from hsz)] at hst
 have HY:=hide (setRow_heap _ _ _ (cutW cs 5) _ _ x1)
 have HB2:Hid (Below w1.heap.size w1 ((w1.alloc (.cells z76 82)).setRow w1.heap.size (cutW cs 5))):=below_setRow (aAb w1 _) (nR _) (cutW cs 5)
 clear x1
 go_upto_region 5 with (refine wpList_load_row rfl (.tmp 23) 82 rfl rfl HLD.out ?_)
 generalize ((w1.alloc (.cells z76 82)).setRow w1.heap.size (cutW cs 5))=w2 at *
 have HB02:Hid (Below w.heap.size w w2):=HB1.out.trans (HB2.out.mono HB1.out.size)
 have HN:Hid (w.heap.size≤w1.heap.size):=HB1.out.size
 generalize hn1:w1.heap.size=n1 at *
 clear hst HLD r1 HL
 have hpx2:=(HB02.out.block px (lt HPX.out)).trans HPX.out
 have e4:w2.cell? ⟨px,4,none⟩=some (.slice ga gone.length gc):=aAa hpx2
 have HDA:=hide (aF9 (B:=n1) (nR n1) HY.out (by decide) HT.out.nw.cut HGO.out HGN.out (aAf HOW.out HB02.out))
 clear hpx2
 go_wp2_with fail
 refine HDA.out.mono ?_
 rintro e w3 ⟨rfl,c3,p1,p2,p3,p4⟩
 have hz3:c3.size=64:=p3.1.trans hsz
 have hgn:g≠n1:=by have:=HN.out;omega
 have hg3:=(p4.2 g (lt ((HB02.out.block g hgl1).trans HG.out)) (by simpa using hgn)).trans ((HB02.out.block g hgl1).trans HG.out)
 have HB03:Hid (Below w.heap.size w w3):=HB02.out.trans (p4.1.mono HN.out)
 have HLD3:=hide (run_loadVar_row (P:=Tryz.prog) w3 n1 82 82 c3 (0,0) _ p1 Tryz.underlying82 rfl (by rw [hz3];exact aB3))
 have HND:=hide (aEd hg3 HT.out (SnV.nil w3) p2 hz3)
 clear e4 p1 p2 p3 p4 hg3 HDA
 go_wp2_with (refine wpList_load_row rfl (.tmp 6) 82 rfl rfl HLD3.out ?_)
 refine HND.out.mono ?_
 rintro e w4 ⟨cr,rfl,hcr,hwd,hb4⟩
 have hwd:Wd cr 0 (jnP (gone.foldl drP now.pgs) last.pgs):=hwd
 have x4:(w4.alloc (.cells z76 82)).heap[w4.heap.size]?=some (.cells z76 82 (0,0)):=heap_alloc_new w4 _
 have hst:=aA5 (o:=0) x4 (show 0+cr.size≤64 by omega) (hwd.one hcr)
 rw [aB5 (show cr.size=64 from hcr)] at hst
 have HY4:=hide (setRow_heap _ _ _ cr _ _ x4)
 have HB04:Hid (Below w.heap.size w w4):=HB03.out.trans (hb4.mono HB03.out.size)
 have HB05:Hid (Below w.heap.size w ((w4.alloc (.cells z76 82)).setRow w4.heap.size cr)):=below_setRow (HB04.out.trans ((aAb w4 _).mono HB04.out.size)) HB04.out.size cr
 have HWD:=hide hwd
 clear hb4 x4 hwd
 go_upto_region 7 with fail
 generalize ((w4.alloc (.cells z76 82)).setRow w4.heap.size cr)=w5 at *
 generalize hn4:w4.heap.size=n4 at *
 clear hst HND HLD3
 have HBL:=hide (aBv B p s w5 (HST.out.later HB05.out).1)
 have HCT:=hide (count_any (o:=0) HY4.out HWD.out)
 rw [HCC.out] at HCT
 have r0:w5.cell? ⟨g,0,none⟩=some (.pointer (some ⟨p,0,none⟩)):=(aAa ((HB05.out.block g hgl1).trans HG.out)).trans HT.out.c0
 go_wp2_with fail
 refine HBL.out.mono ?_
 rintro e w6 ⟨rfl,hw⟩
 have hw:=hw.symm
 subst hw
 go_wp2_with fail
 refine HCT.out.mono ?_
 rintro e w7 ⟨rfl,hw⟩
 have hw:=hw.symm
 subst hw
 go_wp2
 go_ret
 exact ⟨rfl,HB05.out⟩
theorem change1_full [Gd] {B p q g tb hb hf ty1 ty2:Nat} {s:DS} {t:PS} {w:World} {cs:Array Value} {now last:StT} {left d n:Int} {cap:Array Value} {gone:List Nat} {h:Nat} {e:ED h} (hg0:Gd.g=none) (hST:ST B p q s t w) (hB:B≤w.heap.size) (hgB:B≤g) (hg:w.heap[g]?=some (.cells cs 87 (0,0))) (hT:TV cs p q now last (.slice none 0 0) left false)
  (htb:w.heap[tb]?=some (.cells #[.pointer (some ⟨g,0,none⟩)] ty1 (0,0))) (hhb:w.heap[hb]?=some (.cells #[.func (Fn.func hf) #[] cap] ty2 (0,0))) (hty1:NT ty1) (hcf:∀ (v:Value) (ww:World),(callFunc hf (#[v]++cap)).run Tryz.prog ww=.ok (.enter hf (#[v]++cap)) ww)
  (hHow:∀ (w1:World) (px:Nat),B≤px→Below w.heap.size w w1→EV B w1 px q (.iface 119 (.int .i64 now.root)) now.depth now.keys []→ST B p q s t w1→B≤w1.heap.size→Calls Tryz.prog hf (#[.pointer (some ⟨px,0,none⟩)]++cap) w1 fun e' w'=>e'=.returned (.bool true)∧∃ rv S,EV B w' px q rv d n gone∧NV B w1.heap.size w' h e S rv∧S.Nodup∧FE B w1 w')
  (hf1:frE h e≤1000) (hfr:cntF t.st<frE h e) (hgo:∀ x∈gone,x<4096) (hgl:gone.length<100000) (hcn:s.n<frE h e+2+cnw (jnP (gone.foldl drP now.pgs) last.pgs) 64) (hn4:s.n≤4096) :
  Calls Tryz.prog 68 #[.pointer (some ⟨tb,0,none⟩),.pointer (some ⟨hb,0,none⟩)] w fun e' w'=>e'=.returned (.int .i64 21)∧FE B w w':=by
 have r1:w.cell? ⟨g,1,none⟩=some (.pointer (some ⟨q,0,none⟩)):=(aAa hg).trans hT.c1
 have r2:w.cell? ⟨g,2,none⟩=some (.int .i64 now.root):=(aAa hg).trans hT.n0
 have r3:w.cell? ⟨g,3,none⟩=some (.int .i64 now.depth):=(aAa hg).trans hT.n1
 have r4:w.cell? ⟨g,4,none⟩=some (.int .i64 now.keys):=(aAa hg).trans hT.n2
 have r5:w.cell? ⟨tb,0,none⟩=some (.pointer (some ⟨g,0,none⟩)):=aAa htb
 have r6:w.cell? ⟨hb,0,none⟩=some (.func (Fn.func hf) #[] cap):=aAa hhb
 have HG:=hide hg
 have HT:=hide hT
 have HST:=hide hST
 have HTB:=hide htb
 have HHW:=hide hHow
 have HFR:=hide (fun (B1:Nat) (ww:World) (S:List Nat) (v:Value) (a1:B≤ww.heap.size) (a2:NV B B1 ww h e S v)=>aG0 h ww e S v a1 hf1 a2)
 have HGO:=hide hgo
 have HGL:=hide hgl
 have HNT:=hide hty1
 have HFX:=hide hfr
 have HCN:=hide hcn
 have HN4:=hide hn4
 clear hg hT hST htb hhb hHow hgo hgl hty1 hfr hcn hn4
 go_enter Tryz.func68,Tryz.ntmps68
 go_upto_region 1 with fail
 have HY0:Hid ((fun wx=>wx.cell? ⟨tb,0,none⟩=some (.pointer (some ⟨g,0,none⟩))∧wx.cell? ⟨g,1,none⟩=some (.pointer (some ⟨q,0,none⟩))∧wx.cell? ⟨g,2,none⟩=some (.int .i64 now.root)∧wx.cell? ⟨g,3,none⟩=some (.int .i64 now.depth)∧wx.cell? ⟨g,4,none⟩=some (.int .i64 now.keys)) w.drew):=⟨r5,r1,r2,r3,r4⟩
 have HBQ:=hide ((aAb w (.cells #[.pointer (some ⟨q,0,none⟩),.iface 119 (.int .i64 now.root),.int .i64 now.depth,.int .i64 now.keys,.slice none 0 0,.slice none 0 0] 124)).drew)
 have HX1:Hid ((w.alloc (.cells #[.pointer (some ⟨q,0,none⟩),.iface 119 (.int .i64 now.root),.int .i64 now.depth,.int .i64 now.keys,.slice none 0 0,.slice none 0 0] 124)).drew.heap[w.heap.size]?=some (.cells #[.pointer (some ⟨q,0,none⟩),.iface 119 (.int .i64 now.root),.int .i64 now.depth,.int .i64 now.keys,.slice none 0 0,.slice none 0 0] 124 (0,0))):=heap_alloc_new w _
 have HY1:Hid ((fun wx=>wx.cell? ⟨tb,0,none⟩=some (.pointer (some ⟨g,0,none⟩))∧wx.cell? ⟨g,1,none⟩=some (.pointer (some ⟨q,0,none⟩))∧wx.cell? ⟨g,2,none⟩=some (.int .i64 now.root)∧wx.cell? ⟨g,3,none⟩=some (.int .i64 now.depth)∧wx.cell? ⟨g,4,none⟩=some (.int .i64 now.keys)) ((w.alloc (.cells #[.pointer (some ⟨q,0,none⟩),.iface 119 (.int .i64 now.root),.int .i64 now.depth,.int .i64 now.keys,.slice none 0 0,.slice none 0 0] 124)).drew)):=by
  have k5:=block_lt_of_cell r5
  have k1:=block_lt_of_cell r1
  exact ⟨(HBQ.out.cell (p:=⟨tb,0,none⟩) k5).trans r5,(HBQ.out.cell (p:=⟨g,1,none⟩) k1).trans r1,(HBQ.out.cell (p:=⟨g,2,none⟩) k1).trans r2,(HBQ.out.cell (p:=⟨g,3,none⟩) k1).trans r3,(HBQ.out.cell (p:=⟨g,4,none⟩) k1).trans r4⟩
 have HR5:=hide r5
 have HR6:=hide r6
 clear r1 r2 r3 r4 r5 r6
 refine wp_region_noPanic ?_
 refine wp_region_held_drew (S:=fun wx=>wx.cell? ⟨tb,0,none⟩=some (.pointer (some ⟨g,0,none⟩))∧wx.cell? ⟨g,1,none⟩=some (.pointer (some ⟨q,0,none⟩))∧wx.cell? ⟨g,2,none⟩=some (.int .i64 now.root)∧wx.cell? ⟨g,3,none⟩=some (.int .i64 now.depth)∧wx.cell? ⟨g,4,none⟩=some (.int .i64 now.keys)) (by kernel_rfl) HY0.out (fun hHeld=>?_)
 refine wpAnyH_tk 0 6 ?_
 refine wpAnyH_tk 1 7 ?_
 refine wpAnyH_tk 2 8 ?_
 refine wpAnyH_tk 3 9 ?_
 refine wpAnyH_tk 4 10 ?_
 refine wpAnyH_tk 5 11 ?_
 refine wpAnyH_tk 6 12 ?_
 refine wpAnyH_tk 7 13 ?_
 refine wpAnyH_tk 8 14 ?_
 refine wpAnyH_tk 9 15 ?_
 refine wpAnyH_tk 10 16 ?_
 refine wpAnyH_tk 11 17 ?_
 refine wpAnyH_tk 12 18 ?_
 refine wpAnyH_tk 13 19 ?_
 refine wpAnyH_tk 14 20 ?_
 refine wpAnyH_tk 15 21 ?_
 refine wpAnyH_tk 16 22 ?_
 refine wpAnyH_tk 17 23 ?_
 refine wpAnyH_tk 18 24 ?_
 refine wpAnyH_tk 19 25 ?_
 refine wpAnyH_tk 20 26 ?_
 refine wpAnyH_cm 21 ?_;intro K hK
 go_simp
 clear hHeld
 refine hK.out _ _ HY1.out (fun hHeld=>?_)
 clear hK K
 try simp only [Act.put,siT,scZ,scS]
 refine wpAnyH_tk 22 3 ?_
 refine wpAnyH_done (by kernel_rfl) ?_ _
 refine NoPanic.normal ?_
 clear hHeld HY0 HY1
 have HB1:=HBQ
 clear HBQ
 generalize ((w.alloc (.cells #[.pointer (some ⟨q,0,none⟩),.iface 119 (.int .i64 now.root),.int .i64 now.depth,.int .i64 now.keys,.slice none 0 0,.slice none 0 0] 124)).drew)=w1 at *
 have r5:=HR5.out
 have r6:=HR6.out
 have t1:w1.cell? ⟨tb,0,none⟩=some (.pointer (some ⟨g,0,none⟩)):=(HB1.out.cell (p:=⟨tb,0,none⟩) (block_lt_of_cell r5)).trans r5
 have h1:w1.cell? ⟨hb,0,none⟩=some (.func (Fn.func hf) #[] cap):=(HB1.out.cell (p:=⟨hb,0,none⟩) (block_lt_of_cell r6)).trans r6
 have c1:=hcf (.pointer (some ⟨w.heap.size,0,none⟩)) w1
 have HF1:=hide (FE.of HB1.out hB)
 have HEV1:Hid (EV B w1 w.heap.size q (.iface 119 (.int .i64 now.root)) now.depth now.keys []):=⟨hB,⟨_,HX1.out,own_nil⟩,by simp⟩
 have HCL:=hide (HHW.out w1 w.heap.size hB HB1.out HEV1.out (HST.out.later HB1.out) (nT hB HB1.out.size))
 have HBw1:Hid (B≤w1.heap.size):=nT hB HB1.out.size
 clear r5 r6 hcf HX1 HEV1 HHW HB1 HR5 HR6
 generalize hpx:w.heap.size=px at *
 go_wp2_with fail
 refine HCL.out.mono ?_
 rintro e2 w2 ⟨rfl,rv,S,v1,v2,v3,v4⟩
 obtain ⟨ty,pv,rfl⟩:=v2.form
 have HF2:=hide (HF1.out.trans v4)
 have HBw2:Hid (B≤w2.heap.size):=nT HBw1.out v4.1.size
 have HEV2:=hide v1
 have HNV2:=hide v2
 have HND:=hide v3
 have HST2:=hide (HF2.out.st HST.out hg0)
 have HG2:=hide (HF2.out.nt HG.out (by decide))
 have HMR:=hide (makeRoom_no HST2.out HG2.out HT.out v1 (HFR.out _ w2 S _ HBw2.out v2) HFX.out HGO.out HGL.out HCN.out HN4.out)
 have t2:w2.cell? ⟨tb,0,none⟩=some (.pointer (some ⟨g,0,none⟩)):=aAa (HF2.out.nt HTB.out HNT.out)
 clear v1 v2 v3 v4 t1 h1 c1 HCL
 go_wp2_with fail
 refine HMR.out.mono ?_
 rintro e3 w3 ⟨rfl,hb3⟩
 have HF3:=hide (HF2.out.trans (FE.of hb3 HBw2.out))
 clear hb3 t2 HMR
 go_wp2
 go_ret
 exact ⟨rfl,HF3.out⟩
theorem aFk [Gd] {B p q g hf:Nat} {s:DS} {t:PS} {w:World} {cs:Array Value} {now last:StT} {left d n:Int} {cap:Array Value} {gone:List Nat} {h:Nat} {e:ED h} (hg0:Gd.g=none) (hST:ST B p q s t w) (hB:B≤w.heap.size) (hgB:B≤g) (hg:w.heap[g]?=some (.cells cs 87 (0,0))) (hT:TV cs p q now last (.slice none 0 0) left false)
  (hcf:∀ (v:Value) (ww:World),(callFunc hf (#[v]++cap)).run Tryz.prog ww=.ok (.enter hf (#[v]++cap)) ww)
  (hHow:∀ (w1:World) (px:Nat),B≤px→Below w.heap.size w w1→EV B w1 px q (.iface 119 (.int .i64 now.root)) now.depth now.keys []→ST B p q s t w1→B≤w1.heap.size→Calls Tryz.prog hf (#[.pointer (some ⟨px,0,none⟩)]++cap) w1 fun e' w'=>e'=.returned (.bool true)∧∃ rv S,EV B w' px q rv d n gone∧NV B w1.heap.size w' h e S rv∧S.Nodup∧FE B w1 w')
  (hf1:frE h e≤1000) (hfr:cntF t.st<frE h e) (hgo:∀ x∈gone,x<4096) (hgl:gone.length<100000) (hcn:s.n<frE h e+2+cnw (jnP (gone.foldl drP now.pgs) last.pgs) 64) (hn4:s.n≤4096) :
  Calls Tryz.prog 39 #[.pointer (some ⟨g,0,none⟩),.func (Fn.func hf) #[] cap] w fun e' w'=>e'=.returned (.int .i64 21)∧FE B w w':=by
 have hmf:∀ (fn:Fn) (first cap:Array Value) (w:World),(Instr.makeFunc fn first cap).run Tryz.prog w=.ok (.func fn first cap) w:=fun _ _ _ _=>rfl
 have hgl':=(lO hg)
 have x1:Hid ((w.alloc (.cells #[.pointer (some ⟨g,0,none⟩)] 24)).heap[w.heap.size]?=some (.cells #[.pointer (some ⟨g,0,none⟩)] 24 (0,0))):=heap_alloc_new w _
 have b1:=aAb w (.cells #[.pointer (some ⟨g,0,none⟩)] 24)
 have e1:(w.alloc (.cells #[.pointer (some ⟨g,0,none⟩)] 24)).heap.size=w.heap.size+1:=Array.size_push _
 have HCR:Hid (Calls Tryz.prog 67 #[.func (Fn.func 68) #[] #[.pointer (some ⟨w.heap.size,0,none⟩),.pointer (some ⟨w.heap.size+1,0,none⟩)]] ((w.alloc (.cells #[.pointer (some ⟨g,0,none⟩)] 24)).alloc (.cells #[.func (Fn.func hf) #[] cap] 79)) fun e' w'=>e'=.returned (.int .i64 21)∧FE B w w'):=by
  generalize hw1:(w.alloc (.cells #[.pointer (some ⟨g,0,none⟩)] 24))=w1 at *
  have x2:(w1.alloc (.cells #[.func (Fn.func hf) #[] cap] 79)).heap[w1.heap.size]?=some (.cells #[.func (Fn.func hf) #[] cap] 79 (0,0)):=heap_alloc_new w1 _
  have b2:=aAb w1 (.cells #[.func (Fn.func hf) #[] cap] 79)
  generalize hw2:(w1.alloc (.cells #[.func (Fn.func hf) #[] cap] 79))=w2 at *
  have x3:(w2.alloc (.cells #[.int .i64 0] 37)).heap[w2.heap.size]?=some (.cells #[.int .i64 0] 37 (0,0)):=heap_alloc_new w2 _
  have b3:=aAb w2 (.cells #[.int .i64 0] 37)
  have b12:Below w.heap.size w w2:=b1.trans (b2.mono b1.size)
  have b13:Below w.heap.size w (w2.alloc (.cells #[.int .i64 0] 37)):=b12.trans (b3.mono b12.size)
  have hbx:B≤w2.heap.size:=nT hB b12.size
  have y1:=((b2.block w.heap.size (by omega)).trans x1.out)
  have y1':=((b3.block w.heap.size (lO y1)).trans y1)
  have y2':=((b3.block w1.heap.size (lO x2)).trans x2)
  rw [e1] at y2'
  have hC:=change1_full (w:=w2.alloc (.cells #[.int .i64 0] 37)) hg0 (hST.later b13) (nT hB b13.size) hgB ((b13.block g hgl').trans hg) hT y1' y2' (by decide) hcf (fun wx px k1 k2=>hHow wx px k1 (b13.trans (k2.mono b13.size))) hf1 hfr hgo hgl hcn hn4
  refine (aCa (w:=w2) (P:=fun r ww=>r=21∧FE B (w2.alloc (.cells #[.int .i64 0] 37)) ww) (fun ww=>by rfl) (hC.mono ?_)).mono ?_
  ·rintro e9 w9 ⟨rfl,hc⟩
   exact ⟨21,rfl,⟨rfl,hc⟩,hc.2 _ _ _ _ x3 (by decide) (by decide)⟩
  ·rintro e9 w9 ⟨r,w8,rfl,⟨rfl,hc⟩,rfl⟩
   refine ⟨rfl,?_⟩
   have x9:=hc.2 _ _ _ _ x3 (by decide) (by decide)
   have hex:Ex B [w2.heap.size] w8 (w8.setCell ⟨w2.heap.size,0,none⟩ (.int .i64 21)):=Ex.set hbx
   have hbase:=(FE.of b13 hB).trans hc
   refine ⟨hbase.1.trans hex.1,fun k cs0 t0 fz m1 m2 m3=>?_⟩
   have m4:=hbase.2 k cs0 t0 fz m1 m2 m3
   have hkl:=(lO m1)
   have hs2:=b12.size
   rw [hex.2 k (lO m4) (by simp;omega),m4]
 clear hST hg hT hcf hHow hf1 hfr hgo hgl hcn hn4 x1 b1
 go_enter Tryz.func39,Tryz.ntmps39
 go_wp2_with fail
 refine HCR.out.mono ?_
 rintro e9 w9 ⟨rfl,hc⟩
 have HC:=hide hc
 clear hc
 go_wp2
 go_ret
 exact ⟨rfl,HC.out⟩
theorem put_changeO [Gd] {B p q g kb vb:Nat} {s:DS} {t:PS} {w:World} {now:StT} {left:Int} {l:List It} (hg0:Gd.g=none) (hM:TM B p q g s t now now (.slice none 0 0) left w) (hTr:Tr s t now l) (hl:l.length<100000) (it:It) (hit:ItOk it) {ka va:Option Addr} {kn kc vn vc:Nat} (hkn:it.1.length=kn) (hvn:it.2.length=vn) (hk:BK B w ka kn kc it.1) (hv:BK B w va vn vc it.2) {L0:List Nat} (hpg:PgS now.pgs L0) (hcnt:cntF t.st+L0.length+2=s.n) (hdep:now.depth≤400) (hm:s.m+1000≤100000)
  (hkb:w.heap[kb]?=some (.cells #[.slice ka kn kc] 30 (0,0))) (hvb:w.heap[vb]?=some (.cells #[.slice va vn vc] 30 (0,0))) :
  Calls Tryz.prog 39 #[.pointer (some ⟨g,0,none⟩),.func (Fn.func 40) #[] #[.pointer (some ⟨kb,0,none⟩),.pointer (some ⟨vb,0,none⟩)]] w fun e w'=>(e=.returned (.int .i64 0)∧PutT B p q g s t now now (.slice none 0 0) l it w w')∨(e=.returned (.int .i64 21)∧FE B w w'∧((cntF t.st:Nat):Int)<2*now.depth+1):=by
 obtain ⟨cs,hg,hT⟩:=hM.tv
 have hcf:∀ (v:Value) (ww:World),(callFunc 40 (#[v]++#[.pointer (some ⟨kb,0,none⟩),.pointer (some ⟨vb,0,none⟩)])).run Tryz.prog ww=.ok (.enter 40 (#[v]++#[.pointer (some ⟨kb,0,none⟩),.pointer (some ⟨vb,0,none⟩)])) ww:=fun v ww=>by rfl
 have hcell:∀ w1,Below w.heap.size w w1→w1.cell? ⟨kb,0,none⟩=some (.slice ka kn kc)∧w1.cell? ⟨vb,0,none⟩=some (.slice va vn vc):=fun w1 hb=>⟨(hb.cell (p:=⟨kb,0,none⟩) (lO hkb)).trans (aAa hkb),(hb.cell (p:=⟨vb,0,none⟩) (lO hvb)).trans (aAa hvb)⟩
 rcases hTr with ⟨r1,r2,r3,rfl,r5⟩ | ⟨h,b,e1,e2,e3,e4,e5,e6,e7,e8,e9⟩
 ·have hr:rootE 0 (Sum.inr [it]:ED 0)=⟨0,Sum.inr [it]⟩:=if_neg (show ¬ 4<1 by decide)
  have hits:ItsOk [it]:=⟨nR _,show 1≤4 by decide,fun x hx=>by rw [List.mem_singleton] at hx;rw [hx];exact hit,List.pairwise_singleton _ _⟩
  have hfr:frE 0 (Sum.inr [it]:ED 0)=1:=rfl
  have hHow:∀ (w1:World) (px:Nat),B≤px→Below w.heap.size w w1→EV B w1 px q (.iface 119 (.int .i64 now.root)) now.depth now.keys []→ST B p q s t w1→B≤w1.heap.size→Calls Tryz.prog 40 (#[.pointer (some ⟨px,0,none⟩)]++#[.pointer (some ⟨kb,0,none⟩),.pointer (some ⟨vb,0,none⟩)]) w1 fun e' w'=>e'=.returned (.bool true)∧∃ rv S,EV B w' px q rv 1 1 []∧NV B w1.heap.size w' 0 (Sum.inr [it]:ED 0) S rv∧S.Nodup∧FE B w1 w' :=
   fun w1 px k1 k2 k3 k4 k5=>by
    have c:=hcell w1 k2
    rw [r1,r2,r3] at k3
    have hP:=put_none (w:=w1) (n:=0) k3 k5 (Int.le_refl _) (by decide) it hkn hvn (hk.later k2 hM.bw) (hv.later k2 hM.bw)
    refine (aEp c.1 c.2 hP).mono ?_
    rintro e9 w9 ⟨rfl,rv,S,m1,m2,m3,m4⟩
    rw [hr] at m2
    exact ⟨rfl,rv,S,m1,m2,m3,m4⟩
  by_cases hq:frE 0 (Sum.inr [it]:ED 0)≤cntF t.st
  ·have hC:=aDv (B:=B) (h:=0) (e:=(Sum.inr [it]:ED 0)) (d:=1) (n:=1) (gone:=[]) (hf:=40) (cap:=#[.pointer (some ⟨kb,0,none⟩),.pointer (some ⟨vb,0,none⟩)]) hg0 hM.st hM.bw hM.bg hg hT hcf hHow hM.lf hM.dn hM.af hM.l1 (by rw [hfr];omega) hM.sn (by rw [hfr];decide) hq hits (fun x hx=>by simp at hx) (by simp)
   refine hC.mono ?_
   rintro e9 w9 ⟨rfl,hc⟩
   refine Or.inl ?_
   obtain ⟨b,s',t',L,k1,k2,k3,k4,k5⟩:=hc.tm hM
   have hlen:=k1.len
   refine ⟨rfl,s',t',_,L,k2,k4,Or.inr ⟨0,b,rfl,rfl,rfl,?_,List.pairwise_singleton _ _,k3,?_,?_,?_⟩,?_,k5⟩
   ·exact k1.fl
   ·exact k1.sh (show (1:Nat)≤4 by decide)
   ·rw [k1.it];exact nR 1
   ·refine r5.step (gone:=[]) (old:=[]) (List.Perm.refl _) ?_ k2.nd (gw_lt k2 hM.sl) fun x _=>List.not_mem_nil
    exact k1.pg
   ·rw [hlen,hfr];omega
  ·refine (aFk (B:=B) (h:=0) (e:=(Sum.inr [it]:ED 0)) (d:=1) (n:=1) (gone:=[]) (hf:=40) (cap:=#[.pointer (some ⟨kb,0,none⟩),.pointer (some ⟨vb,0,none⟩)]) hg0 hM.st hM.bw hM.bg hg hT hcf hHow (by rw [hfr];decide) (by omega) (fun x hx=>by simp at hx) (by simp) ?_ (by rw [←hM.sn];exact hM.sl)).mono ?_
   ·have:=(hpg.keep (gone:=[]) (fun x hx=>by simp at hx)).cnw
    rw [this]
    omega
   ·rintro e9 w9 ⟨rfl,hc⟩
    exact Or.inr ⟨rfl,hc,by rw [hfr] at hq;omega⟩
 ·have ho:=on_put it hit e4 e5 e6 e7
  have hfr:=fr_put2 (b:=b) it
  have hpl:=pth_len b it.1
  have hh:h≤399:=by omega
  have hHow:∀ (w1:World) (px:Nat),B≤px→Below w.heap.size w w1→EV B w1 px q (.iface 119 (.int .i64 now.root)) now.depth now.keys []→ST B p q s t w1→B≤w1.heap.size→Calls Tryz.prog 40 (#[.pointer (some ⟨px,0,none⟩)]++#[.pointer (some ⟨kb,0,none⟩),.pointer (some ⟨vb,0,none⟩)]) w1 fun e' w'=>e'=.returned (.bool true)∧∃ rv S,EV B w' px q rv (if 4<(itE (putE h (old b) it)).length then ((h+1:Nat):Int)+1 else ((h+1:Nat):Int)) (cntN ((l.length:Nat):Int) (nwB h b it.1)) (pthB h b it.1)∧NV B w1.heap.size w' (rootE h (putE h (old b) it)).1 (rootE h (putE h (old b) it)).2 S rv∧S.Nodup∧FE B w1 w' :=
   fun w1 px k1 k2 k3 k4 k5=>by
    have c:=hcell w1 k2
    rw [e1,e2,e3] at k3
    have hP:=put_some (w:=w1) (gone:=[]) hg0 hM.lf hM.dn b k3 rfl k4 k5 (by simp;omega) (by omega) (by omega) e6 e7 it hkn hvn (hk.later k2 hM.bw) (hv.later k2 hM.bw)
    refine (aEp c.1 c.2 hP).mono ?_
    rintro e9 w9 ⟨rfl,rv,S,m1,m2,m3,m4⟩
    exact ⟨rfl,rv,S,m1,m2,m3,m4⟩
  by_cases hq:frE (rootE h (putE h (old b) it)).1 (rootE h (putE h (old b) it)).2≤cntF t.st
  ·have hC:=aDv (B:=B) (h:=(rootE h (putE h (old b) it)).1) (e:=(rootE h (putE h (old b) it)).2) (d:=(if 4<(itE (putE h (old b) it)).length then ((h+1:Nat):Int)+1 else ((h+1:Nat):Int))) (n:=cntN ((l.length:Nat):Int) (nwB h b it.1)) (gone:=pthB h b it.1) (hf:=40) (cap:=#[.pointer (some ⟨kb,0,none⟩),.pointer (some ⟨vb,0,none⟩)]) hg0 hM.st hM.bw hM.bg hg hT hcf hHow hM.lf hM.dn hM.af hM.l1 (by omega) hM.sn (by omega) hq ho.2.2.2 (fun x hx=>Nat.lt_of_lt_of_le (e6.pth it.1 x hx) (by rw [←hM.sn];exact hM.sl)) (by omega)
   refine hC.mono ?_
   rintro e9 w9 ⟨rfl,hc⟩
   refine Or.inl ?_
   obtain ⟨b',s',t',L,k1,k2,k3,k4,k5⟩:=hc.tm hM
   have hlen:=k1.len
   exact ⟨rfl,s',t',_,L,k2,k4,Tr.put hit e4 e5 e6 e7 e9 hM.sl k1 k2 k3,by omega,k5⟩
  ·have hgo:∀ x∈pthB h b it.1,x<4096:=fun x hx=>Nat.lt_of_lt_of_le (e6.pth it.1 x hx) (by rw [←hM.sn];exact hM.sl)
   refine (aFk (B:=B) (h:=(rootE h (putE h (old b) it)).1) (e:=(rootE h (putE h (old b) it)).2) (d:=(if 4<(itE (putE h (old b) it)).length then ((h+1:Nat):Int)+1 else ((h+1:Nat):Int))) (n:=(cntN ((l.length:Nat):Int) (nwB h b it.1))) (gone:=pthB h b it.1) (hf:=40) (cap:=#[.pointer (some ⟨kb,0,none⟩),.pointer (some ⟨vb,0,none⟩)]) hg0 hM.st hM.bw hM.bg hg hT hcf hHow (by omega) (by omega) hgo (by omega) ?_ (by rw [←hM.sn];exact hM.sl)).mono ?_
   ·have:=(hpg.keep hgo).cnw
    rw [this]
    omega
   ·rintro e9 w9 ⟨rfl,hc⟩
    exact Or.inr ⟨rfl,hc,by omega⟩
theorem Put_or [Gd] {B p q g:Nat} {s:DS} {t:PS} {w:World} {now:StT} {left:Int} {l:List It} (hg0:Gd.g=none) (hM:TM B p q g s t now now (.slice none 0 0) left w) (hTr:Tr s t now l) (hl:l.length<100000) (it:It) (hit:ItOk it) {ka va:Option Addr} {kn kc vn vc:Nat} (hkn:it.1.length=kn) (hvn:it.2.length=vn) (hk:BK B w ka kn kc it.1) (hv:BK B w va vn vc it.2) {L0:List Nat} (hpg:PgS now.pgs L0) (hcnt:cntF t.st+L0.length+2=s.n) (hdep:now.depth≤400) (hm:s.m+1000≤100000) :
  Calls Tryz.prog 11 #[.pointer (some ⟨g,0,none⟩),.slice ka kn kc,.slice va vn vc] w fun e w'=>(e=.returned (.int .i64 0)∧PutT B p q g s t now now (.slice none 0 0) l it w w')∨(e=.returned (.int .i64 21)∧FE B w w'∧((cntF t.st:Nat):Int)<2*now.depth+1):=by
 have hmf:∀ (fn:Fn) (first cap:Array Value) (w:World),(Instr.makeFunc fn first cap).run Tryz.prog w=.ok (.func fn first cap) w:=fun _ _ _ _=>rfl
 have hk0:¬ (kn:Int)=0:=by
  intro q9
  have:it.1.length=0:=by omega
  exact hit.k0 (List.eq_nil_of_length_eq_zero this)
 have hk6:=hit.k1
 have hv1:=hit.v1
 rw [hkn] at hk6
 rw [hvn] at hv1
 have xv:¬ (1800:Int)<(vn:Int):=by omega
 have b1:=aAb w (.cells #[.slice ka kn kc] 30)
 have b2:=aAb (w.alloc (.cells #[.slice ka kn kc] 30)) (.cells #[.slice va vn vc] 30)
 have x1:(w.alloc (.cells #[.slice ka kn kc] 30)).heap[w.heap.size]?=some (.cells #[.slice ka kn kc] 30 (0,0)):=heap_alloc_new w _
 have x2:=heap_alloc_new (w.alloc (.cells #[.slice ka kn kc] 30)) (.cells #[.slice va vn vc] 30)
 have e1:(w.alloc (.cells #[.slice ka kn kc] 30)).heap.size=w.heap.size+1:=Array.size_push _
 have b12:=b1.trans (b2.mono b1.size)
 have x1':=(b2.block w.heap.size (by omega)).trans x1
 rw [e1] at x2
 have HM:=hide hM
 have HTR:=hide hTr
 have HK:=hide hk
 have HV:=hide hv
 have HBB:=hide b12
 have HX1:=hide x1'
 have HX2:=hide x2
 have HRF:=hide (fun (ww:World) (hb:Below w.heap.size w ww)=>by
  obtain ⟨cs,hg,hT⟩:=(hM.later hb).tv
  have hr:=aCe (hM.later hb).st hM.lf hg hT ka kn kc
  rw [if_neg (by omega),if_neg (by omega)] at hr
  exact hr)
 have HPC:=hide (fun (ww:World) (hb:Below w.heap.size w ww) (y1:ww.heap[w.heap.size]?=some (.cells #[.slice ka kn kc] 30 (0,0))) (y2:ww.heap[w.heap.size+1]?=some (.cells #[.slice va vn vc] 30 (0,0)))=>put_changeO hg0 (hM.later hb) hTr hl it hit hkn hvn (hk.later hb hM.bw) (hv.later hb hM.bw) hpg hcnt hdep hm y1 y2)
 have c1:((w.alloc (.cells #[.slice ka kn kc] 30)).alloc (.cells #[.slice va vn vc] 30)).cell? ⟨w.heap.size,0,none⟩=some (.slice ka kn kc):=aAa x1'
 clear hM hTr hk hv hl hit hpg hcnt hdep hm b1 b2 x1 x2 b12 x1' hk6 hv1 hkn hvn
 go_enter Tryz.func11,Tryz.ntmps11
 go_wp2_with fail
 refine (HRF.out _ HBB.out).mono ?_
 rintro e9 w1 ⟨rfl,hb1⟩
 have HB1:=hide (HBB.out.trans (hb1.mono HBB.out.size))
 have y1:=(hb1.block _ (lO HX1.out)).trans HX1.out
 have y2:=(hb1.block _ (lO HX2.out)).trans HX2.out
 have HCH:=hide (HPC.out w1 HB1.out y1 y2)
 have c2:w1.cell? ⟨w.heap.size+1,0,none⟩=some (.slice va vn vc):=aAa y2
 clear hb1 y1 y2 c1
 go_wp2_with fail
 refine HCH.out.mono ?_
 rintro e9 w2 (⟨rfl,hp⟩ | ⟨rfl,hp,hlt⟩)
 ·have HP:=hide hp
  clear hp
  go_wp2
  go_ret
  refine Or.inl ⟨rfl,?_⟩
  obtain ⟨s',t',now',L,k1,k2,k3,k4,k5⟩:=HP.out
  refine ⟨s',t',now',L,k1,k2,k3,k4,(HB1.out.mono HM.out.bw).trans k5.1,fun k cs0 t0 fz m1 m2 m3=>?_⟩
  exact k5.2 k cs0 t0 fz ((HB1.out.block k (lO m1)).trans m1) m2 m3
 ·have HP:=hide hp
  have HLT:=hide hlt
  clear hp hlt
  go_wp2
  go_ret
  exact Or.inr ⟨rfl,(FE.of HB1.out HM.out.bw).trans HP.out,HLT.out⟩
end Go.Proofs.YtlmaolfajcgmiaaGreat
