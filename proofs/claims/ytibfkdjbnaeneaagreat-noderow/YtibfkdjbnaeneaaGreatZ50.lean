/- The law NodeRow holds for every input: called with whatever values of its parameters' types it returns true, and each argument reads afterwards as it read before. No condition beyond the form's own reach. -/
import Derived.Test.YtibfkdjbnaeneaaGreatZ49
import Derived.Test.YtibfkdjbnaeneaaGreatZ23
set_option maxRecDepth 100000
set_option maxHeartbeats 16000000
set_option linter.unusedVariables false
namespace Go.Proofs.YtibfkdjbnaeneaaGreat
open Go.RowKit
theorem nodeRow_walk (a0:Option Addr) (T cap0 b0 o0:Nat) (A:Nat→Option Addr) (L C:Nat→Nat) (tf:Nat→List Nat) (a1:Int) (W:World) (h0:TXS W a0 T 100 b0 o0 A L C tf) :
  Calls Tryz.prog 3 #[.slice a0 T cap0,.int .i64 a1] W fun e w'=>e=.returned (.bool true)∧Below W.heap.size W w':=by
 letI:Gd:=⟨none⟩
 have hg0:Hid (Gd.g=none):=rfl
 have lt:∀ {k:Nat} {o:Obj} {ww:World},ww.heap[k]?=some o→k<ww.heap.size:=fun e=>(lO e)
 have H0:=hide h0
 have hT63:=h0.hl
 obtain ⟨sv,hsv,hms⟩:=and31 a1
 obtain ⟨mm,hmm⟩:∃ mm,mm=min T 30:=⟨_,rfl⟩
 have em0:min (T:Int) 30=(mm:Int):=by omega
 have em1:(if (30:Int)<(T:Int) then (30:Int) else (T:Int))=(mm:Int):=by split<;>omega
 have HMM:Hid (mm≤30∧mm≤T):=⟨by omega,by omega⟩
 obtain ⟨s0,hs0⟩:∃ s,s=DS.new 300:=⟨_,rfl⟩
 have HS0:=hide hs0
 have HNW:=hide (new_any W.heap.size 300 W (by omega) (by omega) (nR _) hg0.out)
 rw [←hs0] at HNW
 clear hs0 h0 hmm
 generalize hB:W.heap.size=B at *
 go_enter Tryz.func3,Tryz.ntmps3
 go_wp2_with fail
 refine HNW.out.mono ?_
 rintro e w1 ⟨p,rfl,hD,hb1⟩
 have HOP:=hide (nopen_new (W:=W) (n:=300) HS0.out hD (by have:=hb1.size;omega) hb1 (by decide) (by decide))
 clear hD hb1 HNW
 go_wp2_with fail
 refine HOP.out.mono ?_
 rintro e w2 ⟨q,g,ls,rg,nd,rfl,h2⟩
 have HX0:Hid (NRS B p q g ls rg nd 0 0 false tf W w2):=⟨[],_,⟨0,0,h2,by decide,by decide,by decide⟩,rfl,fun i hi=>absurd hi (by omega)⟩
 clear h2 HOP
 go_wp2_with fail
 go_loopw [10] (fun i wx=>∃ j:Nat,j≤mm∧i=.int .i64 j∧NRS B p q g ls rg nd (2*j) j (decide (sv<j)) tf W wx) (fun i _=>30-(intOf i).toNat)
 case atStart=>exact ⟨0,by omega,rfl,HX0.out⟩
 case round =>
  obtain ⟨j,hj,rfl,hX⟩:=hrel
  have HX:=hide hX
  clear hX HX0
  by_cases hjm:j<mm
  ·have i1:(j:Int)<(mm:Int):=by omega
   have hjT:j<T:=by have:=HMM.out;omega
   have hj30:j<30:=by have:=HMM.out;omega
   have i2:(j:Int)<(T:Int):=by omega
   obtain rfl:a0=some ⟨b0,o0,none⟩:=H0.out.place (by omega)
   have HC0:=hide (H0.out.cell j hjT)
   have hcp:=H0.out.cap j hjT
   have HBS:=hide (H0.out.bs j hjT)
   generalize A j=aa at *
   generalize L j=ll at *
   generalize C j=cc at *
   obtain ⟨kk,hkk⟩:∃ kk,kk=min ll 100:=⟨_,rfl⟩
   rw [←hkk] at HBS
   have e0:(if (100:Int)<(ll:Int) then (100:Int) else (ll:Int))=(kk:Int):=by split<;>omega
   have em:min (ll:Int) 100=(kk:Int):=by omega
   have u0:(0:Int)≤(kk:Int):=by omega
   have v0:(kk:Int)≤(cc:Int):=by omega
   have y0:(cc:Int)≤9223372036854775807:=by omega
   have HKK:Hid (kk≤100):=by show kk≤100;omega
   have HC1:Hid (wr.cell? ⟨b0,o0+j,none⟩=some (.slice aa ll cc)):=(HX.out.be.cell (p:=⟨b0,o0+j,none⟩) (by rw [←hB];exact block_lt_of_cell HC0.out)).trans HC0.out
   have HS12:Hid ((fun wx=>wx.cell? ⟨b0,o0+j,none⟩=some (.slice aa ll cc)) wr.drew):=HC1.out
   have HXD:=hide (HX.out.later (show Below wr.heap.size wr wr.drew from (Below.refl _ _).drew))
   clear hkk hcp
   go_upto_region 12 with fail
   refine wp_region_noPanic ?_
   refine wp_region_held_drew (S:=fun wx=>wx.cell? ⟨b0,o0+j,none⟩=some (.slice aa ll cc)) (by kernel_rfl) HS12.out (fun hHeld=>?_)
   refine wpAnyH_tk 0 47 ?_
   refine wpAnyH_tk 1 48 ?_
   refine wpAnyH_tk 2 49 ?_
   refine wpAnyH_tk 3 50 ?_
   refine wpAnyH_tk 4 51 ?_
   refine wpAnyH_tk 5 52 ?_
   refine wpAnyH_tk 6 53 ?_
   refine wpAnyH_tk 7 54 ?_
   refine wpAnyH_tk 8 55 ?_
   refine wpAnyH_tk 9 56 ?_
   refine wpAnyH_tk 10 57 ?_
   refine wpAnyH_tk 11 11 ?_
   refine wpAnyH_done (by kernel_rfl) ?_ _
   refine NoPanic.normal ?_
   clear hHeld HX HS12 HC1 HC0 e0 em u0 v0 y0
   generalize wr.drew=wa at *
   by_cases hjs:j=sv
   ·have z1:(sv:Int)≤(j:Int):=by omega
    have z2:decide ((j:Int)=(sv:Int))=true:=by simp;omega
    have z5:((j:Int) == (sv:Int))=true:=by simp;omega
    have fld:∀ (a b c d:Int) (v:Bool) (s:Option Addr) (n k:Nat) (ww:World),(Instr.field 32 (.agg #[.int .i64 a,.int .i64 b,.bool v,.int .i64 c,.int .i64 d,.slice s n k]) 2).run Tryz.prog ww=.ok (.bool v) ww:=fun _ _ _ _ _ _ _ _ _=>by kernel_rfl
    have z3:decide (sv<j)=false:=by simp;omega
    have z4:Hid (decide (sv<j+1)=true):=by show _=_;simp;omega
    rw [z3] at HXD
    have HSL:=hide (HXD.out.seal hg0.out (by omega))
    clear hjs z3
    go_wp2_with fail
    refine HSL.out.mono ?_
    rintro e wb ⟨sa0,sc0,rfl,hx,hk⟩
    have HXB:=hide hx
    clear hx hk HSL HXD
    have HW:=hide (HXB.out.w (k:=2) hg0.out (by omega) rfl (by omega) (arg_bk0 hB HBS.out HXB.out.be) (by have:=HKK.out;omega))
    go_wp2_with fail
    refine HW.out.mono ?_
    rintro e w3 ⟨s1,c1,rfl,hx3,hk3⟩
    have HB3:=hide (aAc w3 (.cells #[.int .i64 0,.int .i64 ((j:Int)+1),.bool true,.int .i64 0,.int .i64 0,.slice s1 0 c1] 32))
    have HN1:Hid ((w3.alloc (.cells #[.int .i64 0,.int .i64 ((j:Int)+1),.bool true,.int .i64 0,.int .i64 0,.slice s1 0 c1] 32)).heap[w3.heap.size]?=some (.cells #[.int .i64 0,.int .i64 ((j:Int)+1),.bool true,.int .i64 0,.int .i64 0,.slice s1 0 c1] 32 (0,0))):=heap_alloc_new w3 _
    have HX3:=hide (hx3.later HB3.out)
    clear hx3 hk3 HW HXB HB3
    go_upto_region 19 with fail
    generalize w3.alloc (.cells #[.int .i64 0,.int .i64 ((j:Int)+1),.bool true,.int .i64 0,.int .i64 0,.slice s1 0 c1] 32)=x3 at *
    generalize w3.heap.size=n3 at *
    have kc1:=Lib.run_convert_bytes_const (P:=Tryz.prog) x3 30 5 #[.int .u8 120] 1 1 Tryz.underlying30 Tryz.underlying5
    have HB4:=hide (aAc x3 (.cells #[.int .u8 120] 5 (1,2)))
    have HX4:=hide (HX3.out.later HB4.out)
    have HN14:=hide ((HB4.out.block n3 (lt HN1.out)).trans HN1.out)
    have HSA:Hid (Calls Tryz.prog 7 #[.pointer (some ⟨nd,0,none⟩),.agg #[.int .i64 2,.int .i64 5,.int .i64 (j:Int),.slice (some ⟨x3.heap.size,0,none⟩) 1 1]] (x3.alloc (.cells #[.int .u8 120] 5 (1,2))) fun e w'=>∃ sa sc,e=.returned (.agg #[.int .i64 0,.int .i64 ((j:Int)+1),.bool true,.int .i64 0,.int .i64 0,.slice sa 0 sc])∧NRS B p q g ls rg nd (2*j+1+1) (j+1) true tf W w'∧AnK (x3.alloc (.cells #[.int .u8 120] 5 (1,2))) w'):=HX4.out.same (at_:=j) rfl (by omega) (by omega) (by decide)
    go_wp2_with fail
    refine HSA.out.mono ?_
    rintro e w4 ⟨s2,c2,rfl,hx4,hk4⟩
    have HN15:=hide (hk4 _ _ HN14.out)
    have HB5:=hide (aAc w4 (.cells #[.int .i64 0,.int .i64 ((j:Int)+1),.bool true,.int .i64 0,.int .i64 0,.slice s2 0 c2] 32))
    have HN16:=hide ((HB5.out.block n3 (lt HN15.out)).trans HN15.out)
    have HN2:Hid ((w4.alloc (.cells #[.int .i64 0,.int .i64 ((j:Int)+1),.bool true,.int .i64 0,.int .i64 0,.slice s2 0 c2] 32)).heap[w4.heap.size]?=some (.cells #[.int .i64 0,.int .i64 ((j:Int)+1),.bool true,.int .i64 0,.int .i64 0,.slice s2 0 c2] 32 (0,0))):=heap_alloc_new w4 _
    have HX5:=hide (hx4.later HB5.out)
    clear hx4 hk4 HSA HX4 HX3 HN1 HN14 HN15 HB4 HB5 kc1
    go_upto_region 20 with fail
    generalize w4.alloc (.cells #[.int .i64 0,.int .i64 ((j:Int)+1),.bool true,.int .i64 0,.int .i64 0,.slice s2 0 c2] 32)=x5 at *
    generalize w4.heap.size=n4 at *
    have HSB:Hid (Calls Tryz.prog 7 #[.pointer (some ⟨nd,0,none⟩),.agg #[.int .i64 2,.int .i64 5,.int .i64 ((j:Int)+2),.slice aa kk cc]] x5 fun e w'=>∃ sa sc,e=.returned (.agg #[.int .i64 0,.int .i64 ((j:Int)+1),.bool true,.int .i64 0,.int .i64 0,.slice sa 0 sc])∧NRS B p q g ls rg nd (2*j+1+1) (j+1) true tf W w'∧AnK x5 w'):=HX5.out.same (at_:=j+2) rfl (by omega) (by omega) (by have:=HKK.out;omega)
    go_wp2_with fail
    refine HSB.out.mono ?_
    rintro e w5 ⟨s3,c3,rfl,hx5,hk5⟩
    have f1:=hk5 _ _ HN16.out
    have f2:=hk5 _ _ HN2.out
    have HB6:=hide (aAc w5 (.cells #[.int .i64 0,.int .i64 ((j:Int)+1),.bool true,.int .i64 0,.int .i64 0,.slice s3 0 c3] 32))
    have HX6:=hide (hx5.later HB6.out)
    have g1:(w5.alloc (.cells #[.int .i64 0,.int .i64 ((j:Int)+1),.bool true,.int .i64 0,.int .i64 0,.slice s3 0 c3] 32)).heap[n3]?=_:=(HB6.out.block n3 (lt f1)).trans f1
    have g2:(w5.alloc (.cells #[.int .i64 0,.int .i64 ((j:Int)+1),.bool true,.int .i64 0,.int .i64 0,.slice s3 0 c3] 32)).heap[n4]?=_:=(HB6.out.block n4 (lt f2)).trans f2
    have g3:(w5.alloc (.cells #[.int .i64 0,.int .i64 ((j:Int)+1),.bool true,.int .i64 0,.int .i64 0,.slice s3 0 c3] 32)).heap[w5.heap.size]?=some (.cells #[.int .i64 0,.int .i64 ((j:Int)+1),.bool true,.int .i64 0,.int .i64 0,.slice s3 0 c3] 32 (0,0)):=heap_alloc_new w5 _
    have HG:=hide (And.intro g1 (And.intro g2 g3))
    clear hx5 hk5 f1 f2 g1 g2 g3 HSB HX5 HN16 HN2 HB6
    go_upto_region 21 with fail
    generalize w5.alloc (.cells #[.int .i64 0,.int .i64 ((j:Int)+1),.bool true,.int .i64 0,.int .i64 0,.slice s3 0 c3] 32)=x6 at *
    generalize w5.heap.size=n5 at *
    obtain ⟨g1,g2,g3⟩:=HG.out
    have y0:x6.cell? ⟨n3,0,none⟩=some (.int .i64 0):=aAa g1
    have y1:x6.cell? ⟨n3,1,none⟩=some (.int .i64 ((j:Int)+1)):=aAa g1
    have y2:x6.cell? ⟨n3,2,none⟩=some (.bool true):=aAa g1
    have y3:x6.cell? ⟨n4,1,none⟩=some (.int .i64 ((j:Int)+1)):=aAa g2
    have y4:x6.cell? ⟨n5,1,none⟩=some (.int .i64 ((j:Int)+1)):=aAa g3
    clear g1 g2 g3 HG
    go_wp2_with fail
    go_roundw
    case rel=>exact ⟨j+1,by omega,by go_num,by rw [z4.out];exact HX6.out.mono (by omega)⟩
    case measure=>simp [intOf];omega
   ·by_cases hjs2:j<sv
    ·have z1:¬ (sv:Int)≤(j:Int):=by omega
     have z2:¬ (j:Int)=(sv:Int):=by omega
     have z3:decide (sv<j)=false:=by simp;omega
     have z4:Hid (decide (sv<j+1)=false):=by show _=_;simp;omega
     rw [z3] at HXD
     have HXB:=hide (HXD.out.mono (show 2*j≤2*j+1 by omega))
     obtain ⟨wb,hwb⟩:∃ x,x=wa:=⟨_,rfl⟩
     subst hwb
     clear hjs hjs2 z3 HXD
     have HW:=hide (HXB.out.w (k:=1) hg0.out (by omega) rfl (by omega) (arg_bk0 hB HBS.out HXB.out.be) (by have:=HKK.out;omega))
     go_wp2_with fail
     refine HW.out.mono ?_
     rintro e w3 ⟨s1,c1,rfl,hx3,hk3⟩
     have HB3:=hide (aAc w3 (.cells #[.int .i64 0,.int .i64 ((j:Int)+1),.bool false,.int .i64 0,.int .i64 0,.slice s1 0 c1] 32))
     have HN1:Hid ((w3.alloc (.cells #[.int .i64 0,.int .i64 ((j:Int)+1),.bool false,.int .i64 0,.int .i64 0,.slice s1 0 c1] 32)).heap[w3.heap.size]?=some (.cells #[.int .i64 0,.int .i64 ((j:Int)+1),.bool false,.int .i64 0,.int .i64 0,.slice s1 0 c1] 32 (0,0))):=heap_alloc_new w3 _
     have HX3:=hide (hx3.later HB3.out)
     clear hx3 hk3 HW HXB HB3
     go_upto_region 19 with fail
     generalize w3.alloc (.cells #[.int .i64 0,.int .i64 ((j:Int)+1),.bool false,.int .i64 0,.int .i64 0,.slice s1 0 c1] 32)=x3 at *
     generalize w3.heap.size=n3 at *
     have kc1:=Lib.run_convert_bytes_const (P:=Tryz.prog) x3 30 5 #[.int .u8 120] 1 1 Tryz.underlying30 Tryz.underlying5
     have HB4:=hide (aAc x3 (.cells #[.int .u8 120] 5 (1,2)))
     have HX4:=hide (HX3.out.later HB4.out)
     have HN14:=hide ((HB4.out.block n3 (lt HN1.out)).trans HN1.out)
     have HSA:Hid (Calls Tryz.prog 7 #[.pointer (some ⟨nd,0,none⟩),.agg #[.int .i64 1,.int .i64 5,.int .i64 (j:Int),.slice (some ⟨x3.heap.size,0,none⟩) 1 1]] (x3.alloc (.cells #[.int .u8 120] 5 (1,2))) fun e w'=>∃ sa sc,e=.returned (.agg #[.int .i64 0,.int .i64 ((j:Int)+1),.bool false,.int .i64 0,.int .i64 0,.slice sa 0 sc])∧NRS B p q g ls rg nd (2*j+1+1) (j+1) false tf W w'∧AnK (x3.alloc (.cells #[.int .u8 120] 5 (1,2))) w'):=HX4.out.same (at_:=j) rfl (by omega) (by omega) (by decide)
     go_wp2_with fail
     refine HSA.out.mono ?_
     rintro e w4 ⟨s2,c2,rfl,hx4,hk4⟩
     have HN15:=hide (hk4 _ _ HN14.out)
     have HB5:=hide (aAc w4 (.cells #[.int .i64 0,.int .i64 ((j:Int)+1),.bool false,.int .i64 0,.int .i64 0,.slice s2 0 c2] 32))
     have HN16:=hide ((HB5.out.block n3 (lt HN15.out)).trans HN15.out)
     have HN2:Hid ((w4.alloc (.cells #[.int .i64 0,.int .i64 ((j:Int)+1),.bool false,.int .i64 0,.int .i64 0,.slice s2 0 c2] 32)).heap[w4.heap.size]?=some (.cells #[.int .i64 0,.int .i64 ((j:Int)+1),.bool false,.int .i64 0,.int .i64 0,.slice s2 0 c2] 32 (0,0))):=heap_alloc_new w4 _
     have HX5:=hide (hx4.later HB5.out)
     clear hx4 hk4 HSA HX4 HX3 HN1 HN14 HN15 HB4 HB5 kc1
     go_upto_region 20 with fail
     generalize w4.alloc (.cells #[.int .i64 0,.int .i64 ((j:Int)+1),.bool false,.int .i64 0,.int .i64 0,.slice s2 0 c2] 32)=x5 at *
     generalize w4.heap.size=n4 at *
     have HSB:Hid (Calls Tryz.prog 7 #[.pointer (some ⟨nd,0,none⟩),.agg #[.int .i64 1,.int .i64 5,.int .i64 ((j:Int)+2),.slice aa kk cc]] x5 fun e w'=>∃ sa sc,e=.returned (.agg #[.int .i64 0,.int .i64 ((j:Int)+1),.bool false,.int .i64 0,.int .i64 0,.slice sa 0 sc])∧NRS B p q g ls rg nd (2*j+1+1) (j+1) false tf W w'∧AnK x5 w'):=HX5.out.same (at_:=j+2) rfl (by omega) (by omega) (by have:=HKK.out;omega)
     go_wp2_with fail
     refine HSB.out.mono ?_
     rintro e w5 ⟨s3,c3,rfl,hx5,hk5⟩
     have f1:=hk5 _ _ HN16.out
     have f2:=hk5 _ _ HN2.out
     have HB6:=hide (aAc w5 (.cells #[.int .i64 0,.int .i64 ((j:Int)+1),.bool false,.int .i64 0,.int .i64 0,.slice s3 0 c3] 32))
     have HX6:=hide (hx5.later HB6.out)
     have g1:(w5.alloc (.cells #[.int .i64 0,.int .i64 ((j:Int)+1),.bool false,.int .i64 0,.int .i64 0,.slice s3 0 c3] 32)).heap[n3]?=_:=(HB6.out.block n3 (lt f1)).trans f1
     have g2:(w5.alloc (.cells #[.int .i64 0,.int .i64 ((j:Int)+1),.bool false,.int .i64 0,.int .i64 0,.slice s3 0 c3] 32)).heap[n4]?=_:=(HB6.out.block n4 (lt f2)).trans f2
     have g3:(w5.alloc (.cells #[.int .i64 0,.int .i64 ((j:Int)+1),.bool false,.int .i64 0,.int .i64 0,.slice s3 0 c3] 32)).heap[w5.heap.size]?=some (.cells #[.int .i64 0,.int .i64 ((j:Int)+1),.bool false,.int .i64 0,.int .i64 0,.slice s3 0 c3] 32 (0,0)):=heap_alloc_new w5 _
     have HG:=hide (And.intro g1 (And.intro g2 g3))
     clear hx5 hk5 f1 f2 g1 g2 g3 HSB HX5 HN16 HN2 HB6
     go_upto_region 21 with fail
     generalize w5.alloc (.cells #[.int .i64 0,.int .i64 ((j:Int)+1),.bool false,.int .i64 0,.int .i64 0,.slice s3 0 c3] 32)=x6 at *
     generalize w5.heap.size=n5 at *
     obtain ⟨g1,g2,g3⟩:=HG.out
     have y0:x6.cell? ⟨n3,0,none⟩=some (.int .i64 0):=aAa g1
     have y1:x6.cell? ⟨n3,1,none⟩=some (.int .i64 ((j:Int)+1)):=aAa g1
     have y2:x6.cell? ⟨n3,2,none⟩=some (.bool false):=aAa g1
     have y3:x6.cell? ⟨n4,1,none⟩=some (.int .i64 ((j:Int)+1)):=aAa g2
     have y4:x6.cell? ⟨n5,1,none⟩=some (.int .i64 ((j:Int)+1)):=aAa g3
     clear g1 g2 g3 HG
     go_wp2_with fail
     go_roundw
     case rel=>exact ⟨j+1,by omega,by go_num,by rw [z4.out];exact HX6.out.mono (by omega)⟩
     case measure=>simp [intOf];omega
    ·have z1:(sv:Int)≤(j:Int):=by omega
     have z2:¬ (j:Int)=(sv:Int):=by omega
     have z3:decide (sv<j)=true:=by simp;omega
     have z4:Hid (decide (sv<j+1)=true):=by show _=_;simp;omega
     rw [z3] at HXD
     have HXB:=hide (HXD.out.mono (show 2*j≤2*j+1 by omega))
     obtain ⟨wb,hwb⟩:∃ x,x=wa:=⟨_,rfl⟩
     subst hwb
     clear hjs hjs2 z3 HXD
     have HW:=hide (HXB.out.w (k:=2) hg0.out (by omega) rfl (by omega) (arg_bk0 hB HBS.out HXB.out.be) (by have:=HKK.out;omega))
     go_wp2_with fail
     refine HW.out.mono ?_
     rintro e w3 ⟨s1,c1,rfl,hx3,hk3⟩
     have HB3:=hide (aAc w3 (.cells #[.int .i64 0,.int .i64 ((j:Int)+1),.bool true,.int .i64 0,.int .i64 0,.slice s1 0 c1] 32))
     have HN1:Hid ((w3.alloc (.cells #[.int .i64 0,.int .i64 ((j:Int)+1),.bool true,.int .i64 0,.int .i64 0,.slice s1 0 c1] 32)).heap[w3.heap.size]?=some (.cells #[.int .i64 0,.int .i64 ((j:Int)+1),.bool true,.int .i64 0,.int .i64 0,.slice s1 0 c1] 32 (0,0))):=heap_alloc_new w3 _
     have HX3:=hide (hx3.later HB3.out)
     clear hx3 hk3 HW HXB HB3
     go_upto_region 19 with fail
     generalize w3.alloc (.cells #[.int .i64 0,.int .i64 ((j:Int)+1),.bool true,.int .i64 0,.int .i64 0,.slice s1 0 c1] 32)=x3 at *
     generalize w3.heap.size=n3 at *
     have kc1:=Lib.run_convert_bytes_const (P:=Tryz.prog) x3 30 5 #[.int .u8 120] 1 1 Tryz.underlying30 Tryz.underlying5
     have HB4:=hide (aAc x3 (.cells #[.int .u8 120] 5 (1,2)))
     have HX4:=hide (HX3.out.later HB4.out)
     have HN14:=hide ((HB4.out.block n3 (lt HN1.out)).trans HN1.out)
     have HSA:Hid (Calls Tryz.prog 7 #[.pointer (some ⟨nd,0,none⟩),.agg #[.int .i64 2,.int .i64 5,.int .i64 (j:Int),.slice (some ⟨x3.heap.size,0,none⟩) 1 1]] (x3.alloc (.cells #[.int .u8 120] 5 (1,2))) fun e w'=>∃ sa sc,e=.returned (.agg #[.int .i64 0,.int .i64 ((j:Int)+1),.bool true,.int .i64 0,.int .i64 0,.slice sa 0 sc])∧NRS B p q g ls rg nd (2*j+1+1) (j+1) true tf W w'∧AnK (x3.alloc (.cells #[.int .u8 120] 5 (1,2))) w'):=HX4.out.same (at_:=j) rfl (by omega) (by omega) (by decide)
     go_wp2_with fail
     refine HSA.out.mono ?_
     rintro e w4 ⟨s2,c2,rfl,hx4,hk4⟩
     have HN15:=hide (hk4 _ _ HN14.out)
     have HB5:=hide (aAc w4 (.cells #[.int .i64 0,.int .i64 ((j:Int)+1),.bool true,.int .i64 0,.int .i64 0,.slice s2 0 c2] 32))
     have HN16:=hide ((HB5.out.block n3 (lt HN15.out)).trans HN15.out)
     have HN2:Hid ((w4.alloc (.cells #[.int .i64 0,.int .i64 ((j:Int)+1),.bool true,.int .i64 0,.int .i64 0,.slice s2 0 c2] 32)).heap[w4.heap.size]?=some (.cells #[.int .i64 0,.int .i64 ((j:Int)+1),.bool true,.int .i64 0,.int .i64 0,.slice s2 0 c2] 32 (0,0))):=heap_alloc_new w4 _
     have HX5:=hide (hx4.later HB5.out)
     clear hx4 hk4 HSA HX4 HX3 HN1 HN14 HN15 HB4 HB5 kc1
     go_upto_region 20 with fail
     generalize w4.alloc (.cells #[.int .i64 0,.int .i64 ((j:Int)+1),.bool true,.int .i64 0,.int .i64 0,.slice s2 0 c2] 32)=x5 at *
     generalize w4.heap.size=n4 at *
     have HSB:Hid (Calls Tryz.prog 7 #[.pointer (some ⟨nd,0,none⟩),.agg #[.int .i64 2,.int .i64 5,.int .i64 ((j:Int)+2),.slice aa kk cc]] x5 fun e w'=>∃ sa sc,e=.returned (.agg #[.int .i64 0,.int .i64 ((j:Int)+1),.bool true,.int .i64 0,.int .i64 0,.slice sa 0 sc])∧NRS B p q g ls rg nd (2*j+1+1) (j+1) true tf W w'∧AnK x5 w'):=HX5.out.same (at_:=j+2) rfl (by omega) (by omega) (by have:=HKK.out;omega)
     go_wp2_with fail
     refine HSB.out.mono ?_
     rintro e w5 ⟨s3,c3,rfl,hx5,hk5⟩
     have f1:=hk5 _ _ HN16.out
     have f2:=hk5 _ _ HN2.out
     have HB6:=hide (aAc w5 (.cells #[.int .i64 0,.int .i64 ((j:Int)+1),.bool true,.int .i64 0,.int .i64 0,.slice s3 0 c3] 32))
     have HX6:=hide (hx5.later HB6.out)
     have g1:(w5.alloc (.cells #[.int .i64 0,.int .i64 ((j:Int)+1),.bool true,.int .i64 0,.int .i64 0,.slice s3 0 c3] 32)).heap[n3]?=_:=(HB6.out.block n3 (lt f1)).trans f1
     have g2:(w5.alloc (.cells #[.int .i64 0,.int .i64 ((j:Int)+1),.bool true,.int .i64 0,.int .i64 0,.slice s3 0 c3] 32)).heap[n4]?=_:=(HB6.out.block n4 (lt f2)).trans f2
     have g3:(w5.alloc (.cells #[.int .i64 0,.int .i64 ((j:Int)+1),.bool true,.int .i64 0,.int .i64 0,.slice s3 0 c3] 32)).heap[w5.heap.size]?=some (.cells #[.int .i64 0,.int .i64 ((j:Int)+1),.bool true,.int .i64 0,.int .i64 0,.slice s3 0 c3] 32 (0,0)):=heap_alloc_new w5 _
     have HG:=hide (And.intro g1 (And.intro g2 g3))
     clear hx5 hk5 f1 f2 g1 g2 g3 HSB HX5 HN16 HN2 HB6
     go_upto_region 21 with fail
     generalize w5.alloc (.cells #[.int .i64 0,.int .i64 ((j:Int)+1),.bool true,.int .i64 0,.int .i64 0,.slice s3 0 c3] 32)=x6 at *
     generalize w5.heap.size=n5 at *
     obtain ⟨g1,g2,g3⟩:=HG.out
     have y0:x6.cell? ⟨n3,0,none⟩=some (.int .i64 0):=aAa g1
     have y1:x6.cell? ⟨n3,1,none⟩=some (.int .i64 ((j:Int)+1)):=aAa g1
     have y2:x6.cell? ⟨n3,2,none⟩=some (.bool true):=aAa g1
     have y3:x6.cell? ⟨n4,1,none⟩=some (.int .i64 ((j:Int)+1)):=aAa g2
     have y4:x6.cell? ⟨n5,1,none⟩=some (.int .i64 ((j:Int)+1)):=aAa g3
     clear g1 g2 g3 HG
     go_wp2_with fail
     go_roundw
     case rel=>exact ⟨j+1,by omega,by go_num,by rw [z4.out];exact HX6.out.mono (by omega)⟩
     case measure=>simp [intOf];omega
  ·have i1:¬ (j:Int)<(mm:Int):=by omega
   have hje:j=mm:=by omega
   subst hje
   generalize hsl:decide (sv<j)=sl at *
   have HSLD:=hide hsl
   have HM60:Hid (2*j≤60):=by show _≤_;have:=HMM.out;omega
   clear hsl
   generalize 2*j=m2 at *
   go_wp2_with fail
   go_loopw [16] (fun i wx=>∃ k:Nat,k≤j∧i=.int .i64 k∧NRS B p q g ls rg nd m2 j sl tf W wx) (fun i _=>30-(intOf i).toNat)
   case atStart=>exact ⟨0,by omega,rfl,HX.out⟩
   case round =>
    obtain ⟨k,hk,rfl,hY⟩:=hrel
    have HY:=hide hY
    clear hY HX
    by_cases hkm:k<j
    ·have i3:(k:Int)<(j:Int):=by omega
     have hkT:k<T:=by have:=HMM.out;omega
     have hk30:k<30:=by have:=HMM.out;omega
     have i4:(k:Int)<(T:Int):=by omega
     obtain rfl:a0=some ⟨b0,o0,none⟩:=H0.out.place (by omega)
     have HC0:=hide (H0.out.cell k hkT)
     have hcp:=H0.out.cap k hkT
     have HBS:=hide (H0.out.bs k hkT)
     have HRD:=hide (HY.out.r (at_:=k) hkm (by omega))
     generalize A k=aa at *
     generalize L k=ll at *
     generalize C k=cc at *
     obtain ⟨kk,hkk⟩:∃ kk,kk=min ll 100:=⟨_,rfl⟩
     rw [←hkk] at HBS
     have e0:(if (100:Int)<(ll:Int) then (100:Int) else (ll:Int))=(kk:Int):=by split<;>omega
     have em:min (ll:Int) 100=(kk:Int):=by omega
     have u0:(0:Int)≤(kk:Int):=by omega
     have v0:(kk:Int)≤(cc:Int):=by omega
     have y0:(cc:Int)≤9223372036854775807:=by omega
     have HHL:=hide HBS.out.hlen
     clear hkk hcp
     generalize tf k=ys at *
     generalize hyl:ys.length=tn at *
     go_wp2_with fail
     refine HRD.out.mono ?_
     rintro e w7 ⟨s7,c7,rfl,hbk,hx7,hk7⟩
     have HB7:=hide (aAc w7 (.cells #[.int .i64 0,.int .i64 (j:Int),.bool sl,.int .i64 0,.int .i64 0,.slice s7 tn c7] 32))
     have HN7:Hid ((w7.alloc (.cells #[.int .i64 0,.int .i64 (j:Int),.bool sl,.int .i64 0,.int .i64 0,.slice s7 tn c7] 32)).heap[w7.heap.size]?=some (.cells #[.int .i64 0,.int .i64 (j:Int),.bool sl,.int .i64 0,.int .i64 0,.slice s7 tn c7] 32 (0,0))):=heap_alloc_new w7 _
     have HX7:=hide (hx7.later HB7.out)
     have HK7:=hide (hbk.later HB7.out hx7.bw)
     clear hbk hx7 hk7 HRD HB7
     go_upto_region 27 with fail
     generalize w7.alloc (.cells #[.int .i64 0,.int .i64 (j:Int),.bool sl,.int .i64 0,.int .i64 0,.slice s7 tn c7] 32)=x7 at *
     generalize w7.heap.size=n7 at *
     obtain ⟨sd,hsd⟩:∃ d,str ys=⟨d⟩:=⟨(str ys).data,rfl⟩
     have ne1:((⟨sd⟩:ByteArray) != ⟨sd⟩)=false:=by show (!(sd == sd))=false;simp
     have HD7:Below x7.heap.size x7 x7.drew:=(Below.refl _ _).drew
     have t1:=run_text (HK7.out.later HD7 HX7.out.bw).1
     have t2:=run_text (HBS.out.later ((HX7.out.later HD7).be) (by rw [hB];exact nR B))
     rw [hsd] at t1 t2
     have HX27:Hid ((fun wx=>wx.cell? ⟨n7,0,none⟩=some (.int .i64 0)∧wx.cell? ⟨n7,5,none⟩=some (.slice s7 tn c7)∧wx.cell? ⟨b0,o0+k,none⟩=some (.slice aa ll cc)∧(convert 30 9 (.slice s7 tn c7)).run Tryz.prog wx=.ok (.string ⟨sd⟩) wx∧(convert 30 9 (.slice aa kk cc)).run Tryz.prog wx=.ok (.string ⟨sd⟩) wx) x7.drew):=⟨aAa HN7.out,aAa HN7.out,((HX7.out.later HD7).be.cell (p:=⟨b0,o0+k,none⟩) (by rw [←hB];exact block_lt_of_cell HC0.out)).trans HC0.out,t1,t2⟩
     have d0:decide ((0:Int)=0)=true:=rfl
     have d1:((0:Int) != 0)=false:=rfl
     clear t1 t2 hsd
     refine wp_region_noPanic ?_
     refine wp_region_held_drew (S:=fun wx=>wx.cell? ⟨n7,0,none⟩=some (.int .i64 0)∧wx.cell? ⟨n7,5,none⟩=some (.slice s7 tn c7)∧wx.cell? ⟨b0,o0+k,none⟩=some (.slice aa ll cc)∧(convert 30 9 (.slice s7 tn c7)).run Tryz.prog wx=.ok (.string ⟨sd⟩) wx∧(convert 30 9 (.slice aa kk cc)).run Tryz.prog wx=.ok (.string ⟨sd⟩) wx) (by kernel_rfl) HX27.out (fun hHeld=>?_)
     refine wpAnyH_tk 0 132 ?_
     refine wpAnyH_tk 1 133 ?_
     refine wpAnyH_tk 2 134 ?_
     refine wpAnyH_tk 3 135 ?_
     refine wpAnyH_tk 4 136 ?_
     refine wpAnyH_tk 5 137 ?_
     refine wpAnyH_tk 6 138 ?_
     refine wpAnyH_tk 7 139 ?_
     refine wpAnyH_tk 8 140 ?_
     refine wpAnyH_tk 9 141 ?_
     refine wpAnyH_tk 10 142 ?_
     refine wpAnyH_tk 11 143 ?_
     refine wpAnyH_tk 12 144 ?_
     refine wpAnyH_tk 13 145 ?_
     refine wpAnyH_tk 14 146 ?_
     refine wpAnyH_tk 15 147 ?_
     refine wpAnyH_tk 16 148 ?_
     refine wpAnyH_tk 17 149 ?_
     refine wpAnyH_tk 18 150 ?_
     refine wpAnyH_tk 19 151 ?_
     refine wpAnyH_tk 20 152 ?_
     refine wpAnyH_done (by kernel_rfl) ?_ _
     refine NoPanic.normal ?_
     clear hHeld
     go_wp2_with fail
     go_roundw
     case rel=>exact ⟨k+1,by omega,by go_num,HX7.out.later HD7⟩
     case measure=>simp [intOf];omega
    ·have i3:¬ (k:Int)<(j:Int):=by omega
     clear hkm hk
     have hke:Hid True:=trivial
     have HRN:=hide HY.out.rnone
     go_wp2_with fail
     refine HRN.out.mono ?_
     rintro e w8 ⟨s8,c8,rfl,hx8,hk8⟩
     have HB8:=hide (aAc w8 (.cells #[.int .i64 4,.int .i64 (j:Int),.bool sl,.int .i64 0,.int .i64 0,.slice s8 0 c8] 32))
     have HN8:Hid ((w8.alloc (.cells #[.int .i64 4,.int .i64 (j:Int),.bool sl,.int .i64 0,.int .i64 0,.slice s8 0 c8] 32)).heap[w8.heap.size]?=some (.cells #[.int .i64 4,.int .i64 (j:Int),.bool sl,.int .i64 0,.int .i64 0,.slice s8 0 c8] 32 (0,0))):=heap_alloc_new w8 _
     have HX8:=hide (hx8.later HB8.out)
     clear hx8 hk8 HRN HB8 HY
     go_upto_region 30 with fail
     generalize w8.alloc (.cells #[.int .i64 4,.int .i64 (j:Int),.bool sl,.int .i64 0,.int .i64 0,.slice s8 0 c8] 32)=x8 at *
     generalize w8.heap.size=n8 at *
     have HWM:=hide HX8.out.w256
     generalize her:(if sl=true then (30:Int) else 2)=er at *
     have HER:=hide her
     clear her
     go_wp2_with fail
     refine HWM.out.mono ?_
     rintro e w9 ⟨s9,c9,rfl,hx9,hk9⟩
     have HN8':=hk9 _ _ HN8.out
     have HB9:=hide (aAc w9 (.cells #[.int .i64 er,.int .i64 (j:Int),.bool sl,.int .i64 0,.int .i64 0,.slice s9 0 c9] 32))
     have HNA:=hide ((HB9.out.block n8 (lt HN8')).trans HN8')
     have HN9:Hid ((w9.alloc (.cells #[.int .i64 er,.int .i64 (j:Int),.bool sl,.int .i64 0,.int .i64 0,.slice s9 0 c9] 32)).heap[w9.heap.size]?=some (.cells #[.int .i64 er,.int .i64 (j:Int),.bool sl,.int .i64 0,.int .i64 0,.slice s9 0 c9] 32 (0,0))):=heap_alloc_new w9 _
     have HX9:=hide (hx9.later HB9.out)
     clear hx9 hk9 HWM HB9 HX8 HN8 HN8'
     go_upto_region 31 with fail
     generalize w9.alloc (.cells #[.int .i64 er,.int .i64 (j:Int),.bool sl,.int .i64 0,.int .i64 0,.slice s9 0 c9] 32)=x9 at *
     generalize w9.heap.size=n9 at *
     have HTD:=hide (told8 x9)
     go_wp2_with fail
     refine HTD.out.mono ?_
     rintro e wz ⟨rfl,hbz⟩
     have HNZ:=hide ((hbz.block n8 (lt HNA.out)).trans HNA.out)
     have HNY:=hide ((hbz.block n9 (lt HN9.out)).trans HN9.out)
     have HBE:=hide (HX9.out.be.trans (hbz.mono HX9.out.bw))
     clear hbz HTD HNA HN9 HX9
     have y0:wz.cell? ⟨n8,0,none⟩=some (.int .i64 4):=aAa HNZ.out
     by_cases hq:sv<j
     ·have q1:(sv:Int)<(j:Int):=by omega
      have hsl:=HSLD.out
      rw [decide_eq_true hq] at hsl
      have her:=HER.out
      rw [←hsl,if_pos rfl] at her
      have y1:wz.cell? ⟨n9,0,none⟩=some (.int .i64 30):=by rw [her];exact aAa HNY.out
      clear hsl her
      go_wp2
      go_ret
      exact ⟨rfl,HBE.out⟩
     ·have q1:¬ (sv:Int)<(j:Int):=by omega
      have q2:(j:Int)≤(sv:Int):=by omega
      have hsl:=HSLD.out
      rw [decide_eq_false hq] at hsl
      have her:=HER.out
      rw [←hsl,if_neg (by decide)] at her
      have y1:wz.cell? ⟨n9,0,none⟩=some (.int .i64 2):=by rw [her];exact aAa HNY.out
      clear hsl her
      go_wp2
      go_ret
      exact ⟨rfl,HBE.out⟩
end Go.Proofs.YtibfkdjbnaeneaaGreat
namespace Go.Proofs.YtibfkdjbnaeneaaGreat
open Go.ChangeShapes Go.WideShapes Go.ChangeAt Go.RowKit
set_option linter.unusedVariables false
theorem aFe (os:Os) (started:os.Started) (H:Type) (enc:TypeId×Value→H) :
  ReturnsInHanded {} Tryz.checked os 3 .any (Rows.nodeRowSpec.pre6 enc Tryz.prog Tryz.f3 Rows.nodeRowRow.domain false) (Rows.nodeRowSpec.post enc Tryz.prog Tryz.f3 false true false false):=by
 refine returnsInHanded_of_change_sized (C:=Tryz.checked) own started (by kernel_rfl) Tryz.func3
  (ChangeSpec.witness6 (enc:=enc) (C:=Tryz.checked) false ⟨#[],#[.slice none 0 0,.int .i64 0],[]⟩ 8 (by kernel_rfl) (by kernel_rfl) (by kernel_rfl) (by kernel_rfl)) ?_
 intro W base args ds gs before hval0 hW hcnd hsz0 _
 have hval:∀ (j:Nat) t v,Tryz.f3.params[j]?=some t→args[j]?=some v→Value.okWide Tryz.prog W .any base t v:=hval0
 have hsz:(DataW.weightsEach Tryz.prog (Tryz.f3.params.toList++Rows.nodeRowSpec.plain.varTypes Tryz.prog) (ds++gs)).all (·≤reachBytes)=true:=hsz0
 have hW':=hW
 obtain ⟨p,q,hA0,hV,rfl,hfz,hnd⟩:=hW
 have hA:DataW.TrodAll enc Tryz.prog W 0 (fun _=>true) true Tryz.f3.params.toList args.toList ds p:=hA0
 rw [Tryz.params3] at hA hval hsz
 obtain ⟨v0,vs0,d0,ds0,p0,q0,hargs,rfl,rfl,h0,r0⟩:=trodAll_cons hA
 obtain ⟨v1,vs1,d1,ds1,p1,q1,rfl,rfl,rfl,h1,r1⟩:=trodAll_cons r0
 obtain ⟨rfl,rfl,rfl⟩:=trodAll_nil r1
 obtain rfl:args=#[v0,v1]:=by cases args;simp_all
 obtain ⟨rfl,rfl⟩:=trodVars_none hV
 obtain ⟨a0,len0,cap0,rfl⟩:=okWide_slice Tryz.underlying22 (hval 0 22 v0 rfl rfl)
 have k0:=h0
 have lt0:∀ x∈p0,x.block<W.heap.size:=by obtain ⟨m,hm⟩:=k0;exact DataW.trod_lt m _ _ _ hm
 obtain ⟨b0,o0,A0,L0,C0,tf0,w0⟩:=open_texts 100 (by omega) h0
 obtain ⟨a1,rfl,rfl,rfl,w1⟩:=open_int Tryz.underlying3 (hval 1 3 v1 rfl rfl) h1
 clear hA0 hval0 hsz0
 refine (nodeRow_walk a0 len0 cap0 b0 o0 A0 L0 C0 tf0 a1 W w0).mono fun e W' ⟨he,bel⟩=>?_
 subst he
 exact ⟨_,rfl,_,_,_,[],_,[],hW',trodAll_mk1 (shut_bool Tryz.underlying4 _),(trodAll_cons_mk (Below.trod laidOut (by kernel_rfl) (of_decide_eq_true (by kernel_rfl)) k0 bel lt0) (trodAll_cons_mk (shut_int Tryz.underlying3 w1) trodAll_mk0)),rfl,bel.frame _,fun h=>by cases h⟩
theorem nodeRow_holds:Rows.NodeRowSaid :=
 OpenClaim.holds_of_wide 3 Tryz.f3 rfl rfl rfl rfl rfl rfl rfl ⟨rfl,rfl,rfl,rfl,rfl⟩ rfl rfl rfl rfl rfl (by kernel_rfl) Tryz.func3 (by kernel_rfl)
  (of_decide_eq_true (by kernel_rfl)) (by unfold Func.isWrapper;first | (rw [if_pos (by decide +kernel)];kernel_rfl) | (rw [if_neg (by decide +kernel)];exact ⟨rfl,rfl⟩))
  (fun os started H enc _=>aFe os started H enc)
#print axioms nodeRow_holds
end Go.Proofs.YtibfkdjbnaeneaaGreat
