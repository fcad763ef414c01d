import Derived.Test.YtmmcebojbbdfmaaGreatZ18
import Derived.Test.YtmmcebojbbdfmaaGreatZ19
set_option maxRecDepth 100000
set_option maxHeartbeats 16000000
set_option linter.unusedVariables false
namespace Go.Proofs.YtmmcebojbbdfmaaGreat
open Go.RowKit
theorem right_any (k n:Int) (s:ByteArray) (w:World) (hs:s.size≤1048576) :
  Calls Tryz.prog 120 #[av k n s] w fun e w'=>e=.returned (.int .i64 (rightOf k n s))∧Below w.heap.size w w':=by
 unfold av
 go_enter Tryz.func120,Tryz.ntmps120
 go_wp2_with fail
 refine (aBd k n s _ (by omega)).mono ?_
 rintro e w1 ⟨rfl,hb1⟩
 have HB1:=hidc (((Below.refl _ w).alloc (Nat.le_refl _) (.cells #[.int .i64 k,.int .i64 n,.string s] 73)).trans (hb1.mono (by simp)))
 clear hb1
 go_wp2
 go_ret
 exact ⟨rfl,HB1.out⟩
theorem refRunes_any (s:ByteArray) (w:World) (hs:s.size≤1048576) :
  Calls Tryz.prog 74 #[.string s] w fun e w'=>e=.returned (.int .i64 (countOf (runes (bl s))))∧Below w.heap.size w w':=by
 go_enter Tryz.func74,Tryz.ntmps74
 go_wp2_with fail
 refine (aBa s _ hs).mono ?_
 rintro e w1 ⟨hd,hb1⟩
 have HB1:=hidc hb1
 clear hb1
 unfold DecR at hd
 cases hR:runes (bl s) with
 | none =>
  rw [hR] at hd
  subst hd
  go_wp2
  go_ret
  rw [hR]
  exact ⟨rfl,HB1.out⟩
 | some rs =>
  rw [hR] at hd
  obtain ⟨v,rfl,ho⟩:=hd
  have hl:Hid (v=v):=rfl
  rcases ho.2 with ⟨rfl,h0⟩ | ⟨g,cap,cur,rfl,_⟩
  ·go_wp2
   go_ret
   rw [hR]
   exact ⟨by rw [countOf];simp [h0],HB1.out⟩
  ·clear ho
   go_wp2
   go_ret
   rw [hR]
   exact ⟨rfl,HB1.out⟩
theorem nil_beq (s:ByteArray):((⟨#[]⟩:ByteArray).toList == s.toList)=s.toList.isEmpty:=by
 have e:(⟨#[]⟩:ByteArray).toList=[]:=by rw [ByteArray.toList_eq]
 rw [e]
 cases s.toList<;>rfl
theorem r0 (n:Int) (s:ByteArray):rightOf 0 n s=if n=0∧s.toList.isEmpty=true then 0 else 1:=by
 simp only [rightOf,holdOf,H.eqv,eqv,nil_beq]
 by_cases h:n=0
 ·subst h;cases s.toList.isEmpty<;>simp
 ·have:¬ (0:Int)=n:=fun e=>h e.symm
  simp [h,this]
theorem r1 (n:Int) (s:ByteArray):rightOf 1 n s=if s.toList.isEmpty=true then 0 else 1:=by
 simp [rightOf,holdOf,H.eqv,eqv]
theorem r2 (n:Int) (s:ByteArray):rightOf 2 n s=if n=0 then (if runes (bl s)=none then 12 else 0) else 1:=by
 simp only [rightOf,holdOf,H.eqv,eqv]
 by_cases h:n=0
 ·subst h;simp
 ·have:¬ (0:Int)=n:=fun e=>h e.symm
  simp [h,this]
theorem r3 (n:Int) (s:ByteArray):rightOf 3 n s=if s.toList.isEmpty=true∧(n=0∨n=1) then 0 else 1:=by
 simp only [rightOf,holdOf,H.eqv,eqv,nil_beq,bi]
 by_cases h1:n=1
 ·subst h1;cases s.toList.isEmpty<;>simp
 ·by_cases h0:n=0
  ·subst h0;cases s.toList.isEmpty<;>simp
  ·have:¬ (0:Int)=n:=fun e=>h0 e.symm
   have h1':(n == 1)=false:=by simp [h1]
   simp [h0,h1,h1',this]
theorem r4 {k:Int} (n:Int) (s:ByteArray) (h0:k≠0) (h1:k≠1) (h2:k≠2) (h3:k≠3):rightOf k n s=1:=by
 have:¬ (0:Int)=k:=fun e=>h0 e.symm
 simp [rightOf,holdOf,H.eqv,eqv,h0,h1,h2,h3,this]
theorem refRight_any (k n:Int) (s:ByteArray) (w:World) (hs:s.size≤1048576) :
  Calls Tryz.prog 73 #[av k n s] w fun e w'=>e=.returned (.int .i64 (rightOf k n s))∧Below w.heap.size w w':=by
 unfold av
 cases he:s.toList.isEmpty
 ·by_cases h0:k=0
  ·subst h0
   by_cases hn:n=0
   ·subst hn
    go_enter Tryz.func73,Tryz.ntmps73
    go_wp2
    go_ret
    simp only [r0,he,Bool.false_eq_true,and_false,if_false]
    exact ⟨rfl,by go_grown⟩
   ·have hn1:(n != 0)=true:=by simp [hn]
    go_enter Tryz.func73,Tryz.ntmps73
    go_wp2
    go_ret
    simp only [r0,he,hn,false_and,if_false]
    exact ⟨rfl,by go_grown⟩
  ·by_cases h1:k=1
   ·subst h1
    go_enter Tryz.func73,Tryz.ntmps73
    go_wp2
    go_ret
    simp only [r1,he,Bool.false_eq_true,if_false]
    exact ⟨rfl,by go_grown⟩
   ·by_cases h2:k=2
    ·subst h2
     by_cases hn:n=0
     ·subst hn
      cases hR:runes (bl s) with
      | none =>
       go_enter Tryz.func73,Tryz.ntmps73
       go_wp2_with fail
       refine (aBa s _ hs).mono ?_
       rintro e w1 ⟨hd,hb1⟩
       have HB1:=hidc (((Below.refl _ w).alloc (Nat.le_refl _) (.cells #[.int .i64 2,.int .i64 0,.string s] 73)).trans (hb1.mono (by simp)))
       clear hb1
       unfold DecR at hd
       rw [hR] at hd
       subst hd
       go_wp2
       go_ret
       simp only [r2,hR,if_true]
       exact ⟨rfl,HB1.out⟩
      | some rs =>
       go_enter Tryz.func73,Tryz.ntmps73
       go_wp2_with fail
       refine (aBa s _ hs).mono ?_
       rintro e w1 ⟨hd,hb1⟩
       have HB1:=hidc (((Below.refl _ w).alloc (Nat.le_refl _) (.cells #[.int .i64 2,.int .i64 0,.string s] 73)).trans (hb1.mono (by simp)))
       clear hb1
       unfold DecR at hd
       rw [hR] at hd
       obtain ⟨v,rfl,ho⟩:=hd
       clear ho
       go_wp2
       go_ret
       simp only [r2,hR,if_true,reduceCtorEq,if_false]
       exact ⟨rfl,HB1.out⟩
     ·have hn1:(n != 0)=true:=by simp [hn]
      go_enter Tryz.func73,Tryz.ntmps73
      go_wp2
      go_ret
      simp only [r2,hn,if_false]
      exact ⟨rfl,by go_grown⟩
    ·by_cases h3:k=3
     ·subst h3
      ·skip
       go_enter Tryz.func73,Tryz.ntmps73
       go_wp2
       go_ret
       simp only [r3,he,Bool.false_eq_true,false_and,if_false]
       exact ⟨rfl,by go_grown⟩
     ·have e:=r4 n s h0 h1 h2 h3
      have g0:(k == 0)=false:=by simp [h0]
      have g1:(k == 1)=false:=by simp [h1]
      have g2:(k == 2)=false:=by simp [h2]
      have g3:(k == 3)=false:=by simp [h3]
      go_enter Tryz.func73,Tryz.ntmps73
      go_wp2
      go_ret
      rw [e]
      exact ⟨rfl,by go_grown⟩
 ·by_cases h0:k=0
  ·subst h0
   by_cases hn:n=0
   ·subst hn
    go_enter Tryz.func73,Tryz.ntmps73
    go_wp2
    go_ret
    simp only [r0,he,and_self,if_true]
    exact ⟨rfl,by go_grown⟩
   ·have hn1:(n != 0)=true:=by simp [hn]
    go_enter Tryz.func73,Tryz.ntmps73
    go_wp2
    go_ret
    simp only [r0,he,hn,false_and,if_false]
    exact ⟨rfl,by go_grown⟩
  ·by_cases h1:k=1
   ·subst h1
    go_enter Tryz.func73,Tryz.ntmps73
    go_wp2
    go_ret
    simp only [r1,he,if_true]
    exact ⟨rfl,by go_grown⟩
   ·by_cases h2:k=2
    ·subst h2
     by_cases hn:n=0
     ·subst hn
      cases hR:runes (bl s) with
      | none =>
       go_enter Tryz.func73,Tryz.ntmps73
       go_wp2_with fail
       refine (aBa s _ hs).mono ?_
       rintro e w1 ⟨hd,hb1⟩
       have HB1:=hidc (((Below.refl _ w).alloc (Nat.le_refl _) (.cells #[.int .i64 2,.int .i64 0,.string s] 73)).trans (hb1.mono (by simp)))
       clear hb1
       unfold DecR at hd
       rw [hR] at hd
       subst hd
       go_wp2
       go_ret
       simp only [r2,hR,if_true]
       exact ⟨rfl,HB1.out⟩
      | some rs =>
       go_enter Tryz.func73,Tryz.ntmps73
       go_wp2_with fail
       refine (aBa s _ hs).mono ?_
       rintro e w1 ⟨hd,hb1⟩
       have HB1:=hidc (((Below.refl _ w).alloc (Nat.le_refl _) (.cells #[.int .i64 2,.int .i64 0,.string s] 73)).trans (hb1.mono (by simp)))
       clear hb1
       unfold DecR at hd
       rw [hR] at hd
       obtain ⟨v,rfl,ho⟩:=hd
       clear ho
       go_wp2
       go_ret
       simp only [r2,hR,if_true,reduceCtorEq,if_false]
       exact ⟨rfl,HB1.out⟩
     ·have hn1:(n != 0)=true:=by simp [hn]
      go_enter Tryz.func73,Tryz.ntmps73
      go_wp2
      go_ret
      simp only [r2,hn,if_false]
      exact ⟨rfl,by go_grown⟩
    ·by_cases h3:k=3
     ·subst h3
      by_cases hn:n<0
      ·have e:¬ (n=0∨n=1):=by omega
       go_enter Tryz.func73,Tryz.ntmps73
       go_wp2
       go_ret
       simp only [r3,e,and_false,if_false]
       exact ⟨rfl,by go_grown⟩
      ·by_cases hm:1<n
       ·have e:¬ (n=0∨n=1):=by omega
        have HE:=hidc e
        clear e
        go_enter Tryz.func73,Tryz.ntmps73
        go_wp2
        go_ret
        simp only [r3,HE.out,and_false,if_false]
        exact ⟨rfl,by go_grown⟩
       ·have e:(n=0∨n=1):=by omega
        have HE:=hidc e
        clear e
        go_enter Tryz.func73,Tryz.ntmps73
        go_wp2
        go_ret
        simp only [r3,HE.out,he,and_self,if_true]
        exact ⟨rfl,by go_grown⟩
     ·have e:=r4 n s h0 h1 h2 h3
      have g0:(k == 0)=false:=by simp [h0]
      have g1:(k == 1)=false:=by simp [h1]
      have g2:(k == 2)=false:=by simp [h2]
      have g3:(k == 3)=false:=by simp [h3]
      go_enter Tryz.func73,Tryz.ntmps73
      go_wp2
      go_ret
      rw [e]
      exact ⟨rfl,by go_grown⟩
end Go.Proofs.YtmmcebojbbdfmaaGreat
