import Derived.Test.YtmmcebojbbdfmaaGreatY18
import Derived.Test.YtmmcebojbbdfmaaGreatY19
set_option maxRecDepth 100000
set_option maxHeartbeats 16000000
set_option linter.unusedVariables false
namespace Go.Proofs.YtmmcebojbbdfmaaGreat
open Go.RowKit _root_.Go.Proofs.Tryz
theorem right_any (k n:Int) (s:ByteArray) (w:World) (hs:s.size<=1048576) :
  Calls prog 120 #[av k n s] w fun e w'=>e=.returned (.int .i64 (rightOf k n s))/\Below w.heap.size w w':=by
 unfold av;go_enter func120,ntmps120;go_wp2_with fail;refine (aCb k n s _ (by omega)).mono ?_;rintro e w1 ⟨rfl,hb1⟩;have HB1:=hidc (((Below.refl _ w).alloc (Nat.le_refl _) (.cells #[.int .i64 k,.int .i64 n,.string s] 73)).trans (hb1.mono (by simp)));clear hb1;go_wp2;go_ret;exact ⟨rfl,HB1.out⟩
theorem nil_beq (s:ByteArray):((⟨#[]⟩:ByteArray).toList == s.toList)=s.toList.isEmpty:=by
 have e:(⟨#[]⟩:ByteArray).toList=[]:=by rw [ByteArray.toList_eq]
 rw [e]
 cases s.toList<;>rfl
theorem r0 (n:Int) (s:ByteArray):rightOf 0 n s=if n=0/\s.toList.isEmpty=true then 0 else 1:=by
 simp only [rightOf,holdOf,H.eqv,eqv,nil_beq];by_cases h:n=0
 ·subst h;cases s.toList.isEmpty<;>simp
 ·have:¬ (0:Int)=n:=fun e=>h e.symm
  simp [h,this]
theorem r1 (n:Int) (s:ByteArray):rightOf 1 n s=if s.toList.isEmpty=true then 0 else 1:=by
 simp [rightOf,holdOf,H.eqv,eqv]
theorem r2 (n:Int) (s:ByteArray):rightOf 2 n s=if n=0 then (if runes (bl s)=none then 12 else 0) else 1:=by
 simp only [rightOf,holdOf,H.eqv,eqv];by_cases h:n=0
 ·subst h;simp
 ·have:¬ (0:Int)=n:=fun e=>h e.symm
  simp [h,this]
theorem r3 (n:Int) (s:ByteArray):rightOf 3 n s=if s.toList.isEmpty=true/\(n=0\/n=1) then 0 else 1:=by
 simp only [rightOf,holdOf,H.eqv,eqv,nil_beq,bi];by_cases h1:n=1
 ·subst h1;cases s.toList.isEmpty<;>simp
 ·by_cases h0:n=0
  ·subst h0;cases s.toList.isEmpty<;>simp
  ·have:¬ (0:Int)=n:=fun e=>h0 e.symm
   have h1':(n == 1)=false:=by simp [h1]
   simp [h0,h1,h1',this]
theorem r4 {k:Int} (n:Int) (s:ByteArray) (h0:k≠0) (h1:k≠1) (h2:k≠2) (h3:k≠3):rightOf k n s=1:=by
 have:¬ (0:Int)=k:=fun e=>h0 e.symm
 simp [rightOf,holdOf,H.eqv,eqv,h0,h1,h2,h3,this]
end Go.Proofs.YtmmcebojbbdfmaaGreat
