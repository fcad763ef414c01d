import Derived.Test.YtimdcaofgapnlaaGreatZ45
import Derived.Laws.Bits64b
set_option maxRecDepth 100000
set_option maxHeartbeats 16000000
set_option linter.unusedVariables false
namespace Go.Proofs.YtimdcaofgapnlaaGreat
open Go.RowKit
theorem masks:mk8 85 8=6148914691236517205∧mk8 51 8=3689348814741910323∧mk8 15 8=1085102592571150095:=by decide
theorem ones_steps {x:Nat} (hx:x<18446744073709551616):∃ a1 b1 y1 a2 b2 y2 t3 y3 y4 y5 y6:Nat,
  bits BinOp.and IntKind.u64 ((x:Int) / 2) 6148914691236517205=(a1:Int)∧bits BinOp.and IntKind.u64 (x:Int) 6148914691236517205=(b1:Int)∧IntKind.u64.wrap ((a1:Int)+(b1:Int))=(y1:Int) ∧
  bits BinOp.and IntKind.u64 ((y1:Int) / 4) 3689348814741910323=(a2:Int)∧bits BinOp.and IntKind.u64 (y1:Int) 3689348814741910323=(b2:Int)∧IntKind.u64.wrap ((a2:Int)+(b2:Int))=(y2:Int) ∧
  IntKind.u64.wrap ((y2:Int) / 16+(y2:Int))=(t3:Int)∧bits BinOp.and IntKind.u64 (t3:Int) 1085102592571150095=(y3:Int) ∧
  IntKind.u64.wrap ((y3:Int)+(y3:Int) / 256)=(y4:Int)∧IntKind.u64.wrap ((y4:Int)+(y4:Int) / 65536)=(y5:Int)∧IntKind.u64.wrap ((y5:Int)+(y5:Int) / 4294967296)=(y6:Int)∧IntKind.i64.wrap (y6:Int)=(y6:Int)∧bits BinOp.and IntKind.i64 (y6:Int) 127=((bsum x.testBit 64:Nat):Int):=by
 have cA:∀ (a b:Nat),a<18446744073709551616→b<18446744073709551616→bits BinOp.and IntKind.u64 (a:Int) (b:Int)=((a &&& b:Nat):Int):=fun a b h1 h2=>bits_and_u64_nat a b h1 h2
 have wU:∀ a:Nat,a<18446744073709551616→IntKind.u64.wrap (a:Int)=(a:Int):=fun a h=>by rw [IntKind.wrap_u64];omega
 have l1:x / 2 &&& 6148914691236517205≤6148914691236517205:=Nat.and_le_right
 have l2:x &&& 6148914691236517205≤6148914691236517205:=Nat.and_le_right
 obtain ⟨y1,hy1⟩:∃ y,y=(x / 2 &&& 6148914691236517205)+(x &&& 6148914691236517205):=⟨_,rfl⟩
 have b1:y1<18446744073709551616:=by omega
 have l3:y1 / 4 &&& 3689348814741910323≤3689348814741910323:=Nat.and_le_right
 have l4:y1 &&& 3689348814741910323≤3689348814741910323:=Nat.and_le_right
 obtain ⟨y2,hy2⟩:∃ y,y=(y1 / 4 &&& 3689348814741910323)+(y1 &&& 3689348814741910323):=⟨_,rfl⟩
 have b2:y2≤7378697629483820646:=by omega
 obtain ⟨y3,hy3⟩:∃ y,y=(y2 / 16+y2) &&& 1085102592571150095:=⟨_,rfl⟩
 have e3:y3=st3 8 (st2 8 (st1 8 x)):=by
  unfold st3 st2 st1
  rw [masks.1,masks.2.1,masks.2.2,←hy1,←hy2,hy3]
 rw [st_all hx] at e3
 obtain ⟨y4,hy4⟩:∃ y,y=y3+y3 / 256:=⟨_,rfl⟩
 obtain ⟨y5,hy5⟩:∃ y,y=y4+y4 / 65536:=⟨_,rfl⟩
 obtain ⟨y6,hy6⟩:∃ y,y=y5+y5 / 4294967296:=⟨_,rfl⟩
 obtain ⟨f1,f2⟩:=fold_bytes (aE0 _) (aE0 _) (aE0 _) (aE0 _) (aE0 _) (aE0 _) (aE0 _) (aE0 _) e3 hy4 hy5 hy6
 rw [←bytes_bits x] at f1
 have b5:y5≤y6:=by rw [hy6];exact Nat.le_add_right _ _
 have b4:y4≤y5:=by rw [hy5];exact Nat.le_add_right _ _
 clear e3
 refine ⟨x / 2 &&& 6148914691236517205,x &&& 6148914691236517205,y1,y1 / 4 &&& 3689348814741910323,y1 &&& 3689348814741910323,y2,y2 / 16+y2,y3,y4,y5,y6,?_,cA x 6148914691236517205 hx (by decide),?_,?_,cA y1 3689348814741910323 b1 (by decide),?_,?_,?_,?_,?_,?_,?_,?_⟩
 ·rw [show (x:Int) / 2=((x / 2:Nat):Int) by simp];exact cA (x / 2) 6148914691236517205 (by omega) (by decide)
 ·rw [←Int.natCast_add,←hy1];exact wU y1 b1
 ·rw [show (y1:Int) / 4=((y1 / 4:Nat):Int) by simp];exact cA (y1 / 4) 3689348814741910323 (by omega) (by decide)
 ·rw [←Int.natCast_add,←hy2];exact wU y2 (by omega)
 ·rw [show (y2:Int) / 16=((y2 / 16:Nat):Int) by simp,←Int.natCast_add];exact wU _ (by omega)
 ·rw [hy3];exact cA (y2 / 16+y2) 1085102592571150095 (by omega) (by decide)
 ·rw [show (y3:Int) / 256=((y3 / 256:Nat):Int) by simp,←Int.natCast_add,←hy4];exact wU y4 (by omega)
 ·rw [show (y4:Int) / 65536=((y4 / 65536:Nat):Int) by simp,←Int.natCast_add,←hy5];exact wU y5 (by omega)
 ·rw [show (y5:Int) / 4294967296=((y5 / 4294967296:Nat):Int) by simp,←Int.natCast_add,←hy6];exact wU y6 (by omega)
 ·rw [IntKind.wrap_i64];omega
 ·rw [i64_mask (y6:Int) 7 (by omega) 127 (by decide),←f1]
  simp
theorem ones_any {x:Nat} (hx:x<18446744073709551616) (w:World):Calls Tryz.prog 90 #[.int .u64 (x:Int)] w fun e w'=>e=.returned (.int .i64 ((bsum x.testBit 64:Nat):Int))∧w'=w:=by
 obtain ⟨a1,b1,y1,a2,b2,y2,t3,y3,y4,y5,y6,h1,h2,h3,h4,h5,h6,h7,h8,h9,h10,h11,h12,h13⟩:=ones_steps hx
 generalize bsum x.testBit 64=r at *
 go_enter Tryz.func90,Tryz.ntmps90
 go_wp2
 go_ret
 exact ⟨rfl,rfl⟩
def cnw (ps:List Nat) (n:Nat):Nat:=((ps.take n).map fun x=>bsum x.testBit 64).sum
theorem cnw_succ {ps:List Nat} {n x:Nat} (h:ps[n]?=some x):cnw ps (n+1)=cnw ps n+bsum x.testBit 64:=by
 unfold cnw
 rw [List.take_add_one,h]
 simp
theorem cnw_le (ps:List Nat):∀ n:Nat,cnw ps n≤64*n
 | 0=>by simp [cnw]
 | n+1=>by
  have:=cnw_le ps n
  cases h:ps[n]? with
  | none =>
   have:cnw ps (n+1)=cnw ps n:=by unfold cnw;rw [List.take_add_one,h];simp
   omega
  | some x =>
   rw [cnw_succ h]
   have:=bsum_le x.testBit 64
   omega
theorem count_any {g o:Nat} {w:World} {cs:Array Value} {t:TypeId} {ps:List Nat} (hg:w.heap[g]?=some (.cells cs t (0,0))) (hw:Wd cs o ps) :
  Calls Tryz.prog 57 #[.pointer (some ⟨g,o,none⟩)] w fun e w'=>e=.returned (.int .i64 ((cnw ps 64:Nat):Int))∧w'=w:=by
 have HC:Hid (∀ i x:Nat,ps[i]?=some x→w.cell? ⟨g,o+i,none⟩=some (.int .u64 (x:Int))):=fun i x hi=>(aAa hg).trans (hw.2.2 i x hi)
 have HL:Hid (ps.length=64):=hw.1
 have HB:Hid (∀ x∈ps,x<18446744073709551616):=hw.2.1
 clear hg hw
 go_enter Tryz.func57,Tryz.ntmps57
 go_wp2_with fail
 go_loopw [3,5,7] (fun n _ i wx=>wx=w∧∃ j:Nat,j≤64∧i=.int .i64 (j:Int)∧n=.int .i64 ((cnw ps j:Nat):Int)) (fun _ _ i _=>64-(intOf i).toNat)
 case atStart=>exact ⟨rfl,0,by omega,rfl,rfl⟩
 case round =>
  obtain ⟨rfl,j,hj,rfl,rfl⟩:=hrel
  by_cases q:j<64
  ·have i1:(j:Int)<64:=by omega
   obtain ⟨x,hx⟩:∃ x,ps[j]?=some x:=⟨_,gE (by have:=HL.out;omega)⟩
   have c0:=HC.out j x hx
   have hb:=hide (HB.out x (mG hx))
   go_wp2_with fail
   refine (ones_any hb.out wr).mono ?_
   rintro e w1 ⟨rfl,hw⟩
   have hw:=hw.symm
   subst hw
   have hle:=cnw_le ps (j+1)
   have hsu:=cnw_succ hx
   generalize bsum x.testBit 64=r at *
   generalize hcj:cnw ps j=a at *
   generalize hcj1:cnw ps (j+1)=a1 at *
   have i2:(a:Int)+(r:Int)<9223372036854775808:=by omega
   have i3:0≤(a:Int):=by omega
   have i4:0≤(r:Int):=by omega
   go_wp2
   go_roundw
   case rel=>exact ⟨trivial,j+1,by omega,by go_num,by rw [hcj1,hsu];go_num⟩
   case measure=>simp [intOf];omega
  ·obtain rfl:j=64:=by omega
   go_wp2
   go_ret
   exact ⟨rfl,rfl⟩
theorem Pages_any [Gd] {B p q g:Nat} {s:DS} {t:PS} {w:World} {now last:StT} {sv:Value} {left:Int} {l:List Nat} (hM:TM B p q g s t now last sv left w) (h0:PgS now.pgs l) :
  Calls Tryz.prog 27 #[.pointer (some ⟨g,0,none⟩)] w fun e w'=>e=.returned (.int .i64 (l.length:Int))∧w'=w:=by
 obtain ⟨cs,hg,hT⟩:=hM.tv
 have HC:=hide (count_any (o:=5) hg hT.nw)
 have hl:cnw now.pgs 64=l.length:=by
  have h9:=h0.count
  unfold cnw
  rw [List.take_of_length_le (by rw [h0.1];exact nR _)]
  exact h9
 rw [hl] at HC
 clear hM hg hT h0 hl
 go_enter Tryz.func27,Tryz.ntmps27
 go_wp2_with fail
 refine HC.out.mono ?_
 rintro e w1 ⟨rfl,rfl⟩
 go_wp2
 go_ret
 exact ⟨rfl,rfl⟩
end Go.Proofs.YtimdcaofgapnlaaGreat
