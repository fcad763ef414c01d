import Derived.Test.YthgleplmbnkacaaGreatProg
import Derived.Test.YthgleplmbnkacaaGreatY1
import Derived.WalkKit
import Derived.WalkSpells
import Derived.WalkLawsBesides
import Derived.Lib.BitFns
import Derived.Lib.Walk
set_option maxRecDepth 100000
set_option maxHeartbeats 16000000
namespace Go.Proofs.YthgleplmbnkacaaGreat
open Go.RowKit
theorem aB2 {k:IntKind} {a b:Int} (h:a=b):Ending.returned (.int k a)=.returned (.int k b):=by rw [h]
theorem wraps_i64 (n:Int) (h0:0≤n) (h1:n<2 ^ 63):IntKind.i64.wrap n=n:=by
 rw [IntKind.wrap_i64]
 have:(2:Int) ^ 63=9223372036854775808:=by decide
 omega
theorem i64_or_nat (a b:Nat) (ha:a<9223372036854775808) (hb:b<9223372036854775808):bits .or .i64 (a:Int) (b:Int)=((a ||| b:Nat):Int) :=
 (bits_nat .i64 63 (by decide) wraps_i64 a b (by omega) (by omega)).2
theorem u32_and1 (r:Nat) (h:r<4294967296):bits .and .u32 (r:Int) 1=((r % 2:Nat):Int):=by
 have:=u32_and_nat r 1 h (by decide)
 rw [nat_mask1] at this
 exact this
theorem shift_any (r:Nat) (w:World) (h:r<4294967296) :
  Calls Tryz.prog 223 #[.int .u32 r] w fun e w'=>e=.returned (.int .u32 (sh r:Nat))∧w'=w:=by
 have h1:=u32_and1 r h
 by_cases he:r % 2=0
 ·have hb:(bits BinOp.and IntKind.u32 (↑r) 1 == 0)=true:=by rw [h1,he];rfl
  have hs:Hid (sh r=r / 2):=by unfold sh;rw [if_pos he];exact rfl
  clear h1 he
  go_enter Tryz.func223,Tryz.ntmps223
  go_wp2
  go_ret
  exact ⟨aB2 (by rw [hs.out];simp),rfl⟩
 ·have hb:(bits BinOp.and IntKind.u32 (↑r) 1 == 0)=false:=by rw [h1];simp;omega
  have hx:Hid (bits BinOp.xor IntKind.u32 (↑r / 2) 2197175160=(sh r:Nat)):=by
   have:=u32_xor_nat (r / 2) 2197175160 (by omega) (by decide)
   unfold sh;rw [if_neg he,←this];simp [Hid]
  clear h1 he
  go_enter Tryz.func223,Tryz.ntmps223
  go_wp2
  go_ret
  exact ⟨aB2 hx.out,rfl⟩
end Go.Proofs.YthgleplmbnkacaaGreat
