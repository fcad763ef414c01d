import Derived.Test.YtmmcebojbbdfmaaGreatY5
import Derived.Test.YtmmcebojbbdfmaaGreatY6
set_option maxRecDepth 100000
set_option maxHeartbeats 16000000
namespace Go.Proofs.YtmmcebojbbdfmaaGreat
open Go.RowKit _root_.Go.Proofs.Tryz
theorem aDd:∀ (f x:Nat),x<2 ^ f->x<2 ^ Lib.bitLenAux f x/\(x≠0->2 ^ Lib.bitLenAux f x<=2*x)/\Lib.bitLenAux f x<=f
 | 0,x,h=>by simp [Lib.bitLenAux];omega
 | f+1,x,h=>by
  have h2:x / 2<2 ^ f:=by rw [Nat.pow_succ] at h;omega
  obtain ⟨a,b,c⟩:=aDd f (x / 2) h2;by_cases h0:x=0
  ·subst h0;simp [Lib.bitLenAux]
  ·simp only [Lib.bitLenAux,if_neg h0,Nat.add_comm 1,Nat.pow_succ];refine ⟨by omega,fun _=>?_,by omega⟩;by_cases h1:x / 2=0
   ·rw [h1];have:Lib.bitLenAux f 0=0:=by cases f<;>simp [Lib.bitLenAux]
    rw [this];omega
   ·have:=b h1;omega
def grp (n:Nat):Nat:=(Lib.bitLen (n ||| 1)+6) / 7
theorem or1_le (n:Nat):n<=n ||| 1/\(n ||| 1)<=n+1/\(n ||| 1)≠0/\(n ||| 1) / 128=n / 128:=by
 have h:(n ||| 1)=if n % 2=0 then n+1 else n:=by
  apply Nat.eq_of_testBit_eq;intro i;rw [Nat.testBit_or];split
  ·rename_i h
   have e:n+1=2 ^ 1*(n / 2)+1:=by omega
   have e':n=2 ^ 1*(n / 2)+0:=by omega
   rw [e,Nat.testBit_two_pow_mul_add _ (by decide)];rw [e',Nat.testBit_two_pow_mul_add _ (by decide)];split
   ·simp
   ·rename_i hi
    have:Nat.testBit 1 i=false:=by
     apply Nat.testBit_lt_two_pow;exact Nat.lt_of_lt_of_le (by decide:1<2 ^ 1) (Nat.pow_le_pow_right (by decide) (by omega))
    rw [this,Bool.or_false]
    congr 1
    omega
  ·rename_i h
   by_cases hi:i=0
   ·subst hi;simp;omega
   ·have:Nat.testBit 1 i=false:=by
     apply Nat.testBit_lt_two_pow;exact Nat.lt_of_lt_of_le (by decide:1<2 ^ 1) (Nat.pow_le_pow_right (by decide) (by omega))
    simp [this]
 rw [h]
 split<;>omega
theorem pow128 (k:Nat):2 ^ (7*k)=128 ^ k:=by rw [Nat.pow_mul]
theorem aA2 (n:Nat) (h:n<9223372036854775808):1<=grp n/\grp n<=9/\n<128 ^ grp n/\(n≠0->128 ^ (grp n-1)<=n)/\(n=0->grp n=1):=by
 obtain ⟨o1,o2,o3,o4⟩:=or1_le n;have hor:(n ||| 1)<2 ^ 63:=Nat.or_lt_two_pow (by omega) (by decide);obtain ⟨a,b,c⟩:=aDd 64 (n ||| 1) (by omega);have b:=b o3;have e:Lib.bitLen (n ||| 1)=Lib.bitLenAux 64 (n ||| 1):=rfl;rw [<-e] at a b c;have l1:1<=Lib.bitLen (n ||| 1):=by
  rcases Nat.eq_zero_or_pos (Lib.bitLen (n ||| 1)) with z | z
  ·rw [z] at a;omega
  ·exact z
 have l2:Lib.bitLen (n ||| 1)<=63:=by
  rcases Nat.lt_or_ge 63 (Lib.bitLen (n ||| 1)) with z | z
  ·have e64:Lib.bitLen (n ||| 1)=64:=by omega
   rw [e64] at b;omega
  ·exact z
 have hg:grp n=(Lib.bitLen (n ||| 1)+6) / 7:=rfl;refine ⟨by omega,by omega,?_,?_,?_⟩
 ·rw [<-pow128];exact Nat.lt_of_le_of_lt o1 (Nat.lt_of_lt_of_le a (Nat.pow_le_pow_right (by decide) (by omega)))
 ·intro h0;rw [<-pow128];have hk:7*(grp n-1)<=Lib.bitLen (n ||| 1)-1:=by omega
  have hp:2 ^ (7*(grp n-1))<=2 ^ (Lib.bitLen (n ||| 1)-1):=Nat.pow_le_pow_right (by decide) hk;have hq:2*2 ^ (Lib.bitLen (n ||| 1)-1)=2 ^ Lib.bitLen (n ||| 1):=by
   rw [<-Nat.pow_succ'];congr 1;omega
  by_cases hgz:grp n-1=0
  ·rw [hgz];simp;omega
  ·have h7:2 ^ (7*(grp n-1))=2*2 ^ (7*(grp n-1)-1):=by rw [<-Nat.pow_succ'];congr 1;omega
   have:2 ^ (7*(grp n-1))<=(n ||| 1):=by omega
   have h71:2 ^ (7*(grp n-1)) % 2=0:=by rw [h7];omega
   rcases Nat.lt_or_ge n (2 ^ (7*(grp n-1))) with z | z
   ·have h128:2 ^ (7*(grp n-1))=128*2 ^ (7*(grp n-1)-7):=by
     rw [show (128:Nat)=2 ^ 7 from rfl,<-Nat.pow_add];congr 1;omega
    omega
   ·exact z
 ·intro h0;subst h0;rfl
theorem len_any (x:Int) (w:World) (h0:0<=x) (h1:x<=18446744073709551615) :
  Calls prog 87 #[.int .u64 x] w fun e w'=>e=.returned (.int .i64 (Lib.bitLen x.toNat))/\w'=w:=by
 go_enter func87,ntmps87;go_wp2_with (go_at_call 105;refine (len64_any _ _ h0 h1).mono ?_;rintro e w' ⟨rfl,rfl⟩);go_ret;exact ⟨rfl,rfl⟩
theorem groups_any (n:Nat) (w:World) (h:n<9223372036854775808) :
  Calls prog 68 #[.int .i64 n] w fun e w'=>e=.returned (.int .i64 (grp n:Nat))/\w'=w:=by
 have ho:bits .or .i64 (n:Int) 1=((n ||| 1:Nat):Int):=aD2 n 1 h (by decide);have hor:(n ||| 1)<9223372036854775808:=Nat.or_lt_two_pow (n:=63) (by omega) (by decide);have hb:Lib.bitLen (n ||| 1)<=64:=Lib.bitLen_le _ 64 (by decide) (by omega);have hg:Hid (grp n=(Lib.bitLen (n ||| 1)+6) / 7):=rfl;generalize n ||| 1=m at *
 go_enter func68,ntmps68;go_wp2_with (go_at_call 87;refine (len_any _ _ (by omega) (by omega)).mono ?_;rintro e w' ⟨rfl,rfl⟩);go_ret;exact ⟨ret_int (by rw [hg.out];omega),rfl⟩
end Go.Proofs.YtmmcebojbbdfmaaGreat
