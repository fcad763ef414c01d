import Derived.Test.YtmmcebojbbdfmaaGreatY5
import Derived.Test.YtmmcebojbbdfmaaGreatY7
set_option maxRecDepth 100000
set_option maxHeartbeats 16000000
namespace Go.Proofs.YtmmcebojbbdfmaaGreat
open Go.RowKit _root_.Go.Proofs.Tryz
theorem ret3 {a a' b b' c c':Int} (h1:a=a') (h2:b=b') (h3:c=c') :
  Ending.returned (.tuple #[.int .i64 a,.int .i64 b,.int .i64 c])=.returned (.tuple #[.int .i64 a',.int .i64 b',.int .i64 c']):=by rw [h1,h2,h3]
theorem u8_and127 (c:Nat) (h:c<256):bits .and .u8 (c:Int) 127=((c % 128:Nat):Int):=by
 have:=u8_and_nat c 127 h (by decide);rw [nat_mask7] at this;exact this
theorem i64_join7 (n c:Nat) (h:n*128<9223372036854775808) (hc:c<128):bits .or .i64 ((n:Int)*128) (c:Int)=((n*128+c:Nat):Int):=by
 have e:=aD2 (n*128) c h (by omega);have j:n*128 ||| c=n*128+c:=nat_join 7 (n*128) c (by omega) (by omega);rw [j] at e;simpa using e
theorem readUint_arg (a:Option Addr) (len cap:Nat) (p:Int) (w:World) (hl:len<=140737488355328) (h:p<0\/(len:Int)<p) :
  Calls prog 66 #[.slice a len cap,.int .i64 p] w fun e w'=>e=.returned (.tuple #[.int .i64 0,.int .i64 0,.int .i64 1])/\w'=w:=by
 rcases h with h | h
 ·go_enter func66,ntmps66;go_wp2;go_ret3;exact ⟨rfl,rfl⟩
 ·have h0:¬ p<0:=by omega
  go_enter func66,ntmps66;go_wp2;go_ret3;exact ⟨rfl,rfl⟩
theorem readUint_in (b o len cap:Nat) (xs:List Nat) (p:Nat) (w:World) (h:BS w (some ⟨b,o,none⟩) len cap xs) (hc:∀ i,i<len->w.cell? ⟨b,o+i,none⟩=some (.int .u8 (xs.getD i 0:Nat))) (hp:p<=len) :
  Calls prog 66 #[.slice (some ⟨b,o,none⟩) len cap,.int .i64 p] w fun e w' =>
   e=.returned (.tuple #[.int .i64 (rdN xs p).1,.int .i64 (rdNext xs p),.int .i64 (rdN xs p).2.2])/\w'=w:=by
 have hroom:=h.hroom;have hcap:=h.hcap;have hlen:Hid (xs.length=len):=h.hlen;have hby:Hid (∀ n∈xs,n<256):=h.hbyte;have HCE:Hid (∀ i,i<len->w.cell? ⟨b,o+i,none⟩=some (.int .u8 (xs.getD i 0:Nat))):=hc;clear h hc;have hp0:decide ((p:Int)<0)=false:=by simp
 go_enter func66,ntmps66;go_wp2;go_loop [17,4] (fun t n=>∃ k m:Nat,k<=9/\p+k<=len/\t=.int .i64 k/\n=.int .i64 m/\m<128 ^ k/\rdN xs p=rdFW (9-k) k (xs.drop (p+k)) m) (fun t _=>9-(intOf t).toNat)
 case atStart=>exact ⟨0,0,by omega,by omega,rfl,rfl,by decide,rfl⟩
 case round =>
  obtain ⟨k,m,hk,hpk,rfl,rfl,hm,hr⟩:=hrel;have HR:Hid (rdN xs p=rdFW (9-k) k (xs.drop (p+k)) m):=hr;have HM:Hid (m<128 ^ k):=hm;clear hr hm;by_cases hk9:k<9
  ·by_cases hend:p+k=len
   ·have hend':((p:Int)+(k:Int) == (len:Int))=true:=by simp;omega
    have HE:Hid (p+k=len):=hend;clear hend;go_wp2;go_ret3;obtain ⟨e1,e2,e3⟩:=rd_short hk9 (by rw [hlen.out];exact HE.out) HR.out;exact ⟨ret3 (by rw [e1];rfl) (by rw [e2];rfl) (by rw [e3];rfl),rfl⟩
   ·have hend':((p:Int)+(k:Int) == (len:Int))=false:=by simp;omega
    have hlt:p+k<len:=by omega
    have hmb:m*128<9223372036854775808:=by
     have h1:=HM.out;have h2:=pow9 (k:=k+1) (by omega);rw [Nat.pow_succ] at h2;omega
    obtain ⟨c,HC⟩:∃ c,Hid (xs.getD (p+k) 0=c):=⟨_,rfl⟩;have hcc:w.cell? ⟨b,o+(p+k),none⟩=some (.int .u8 (c:Nat)):=by rw [<-HC.out];exact HCE.out _ hlt
    have hcb:c<256:=by rw [<-HC.out];exact byteAt hby.out _
    have ha:=u8_and127 c hcb;have HJ:Hid (bits .or .i64 ((m:Int)*128) ((c:Int) % 128)=((m*128+c % 128:Nat):Int)):=by have:=i64_join7 m (c % 128) hmb (by omega);simpa [Hid] using this
    by_cases hk0:k=0
    ·obtain rfl:k=0:=hk0;have hcc':w.cell? ⟨b,o+p,none⟩=some (.int .u8 (c:Nat)):=by simpa using hcc
     have hp':p<len:=by omega
     have hend2:((p:Int) == (len:Int))=false:=by simp;omega
     clear hcc hend' hlt;by_cases h128:c=128
     ·obtain rfl:c=128:=h128;clear ha HJ;have hcc2:w.cell? ⟨b,o+p,none⟩=some (.int .u8 128):=hcc';clear hcc';go_wp2;go_ret3;obtain ⟨e1,e2,e3⟩:=rd_form (p:=p) (by rw [hlen.out];exact hp') HC.out HR.out;exact ⟨ret3 (by rw [e1];rfl) (by rw [e2];rfl) (by rw [e3];rfl),rfl⟩
     ·have h128':((c:Int) == 128)=false:=by simp;omega
      by_cases h7:c<128
      ·have h7':(c:Int)<128:=by omega
       go_wp2;go_ret3;obtain ⟨e1,e2,e3⟩:=rd_done hk9 (by rw [hlen.out];exact hp') HC.out h7 HR.out;exact ⟨ret3 (by rw [e1];exact HJ.out) (by rw [e2];omega) (by rw [e3];rfl),rfl⟩
      ·have h7':¬ (c:Int)<128:=by omega
       go_wp2;go_round
       case rel=>exact ⟨1,_,by omega,by omega,rfl,congrArg (Value.int .i64) HJ.out,rd_bound (k:=0) HM.out,rd_more hk9 (by rw [hlen.out];exact hp') HC.out h7 (by omega) HR.out⟩
       case measure=>simp [intOf]
    ·have hk0':((k:Int) == 0)=false:=by simp;omega
     by_cases h7:c<128
     ·have h7':(c:Int)<128:=by omega
      go_wp2;go_ret3;obtain ⟨e1,e2,e3⟩:=rd_done hk9 (by rw [hlen.out];exact hlt) HC.out h7 HR.out;exact ⟨ret3 (by rw [e1];exact HJ.out) (by rw [e2];omega) (by rw [e3];rfl),rfl⟩
     ·have h7':¬ (c:Int)<128:=by omega
      go_wp2;go_round
      case rel=>exact ⟨k+1,_,by omega,by omega,by go_num,congrArg (Value.int .i64) HJ.out,rd_bound HM.out,rd_more hk9 (by rw [hlen.out];exact hlt) HC.out h7 (by omega) HR.out⟩
      case measure=>simp [intOf];omega
  ·obtain rfl:k=9:=by omega
   go_wp2;go_ret3;obtain ⟨e1,e2,e3⟩:=rd_full HR.out;exact ⟨ret3 (by rw [e1];rfl) (by rw [e2];rfl) (by rw [e3];rfl),rfl⟩
theorem aE9 (a:Option Addr) (cap:Nat) (w:World) :
  Calls prog 66 #[.slice a 0 cap,.int .i64 0] w fun e w'=>e=.returned (.tuple #[.int .i64 0,.int .i64 0,.int .i64 10])/\w'=w:=by
 go_enter func66,ntmps66;go_wp2;go_loop [17,4] (fun t _=>t=.int .i64 0) (fun _ _=>0)
 case atStart=>rfl
 case round =>
  obtain rfl:=hrel;go_wp2;go_ret3;exact ⟨rfl,rfl⟩
def ruN (xs:List Nat) (p:Int):Nat:=if 0<=p/\p<=xs.length then (rdN xs p.toNat).1 else 0
def ruP (xs:List Nat) (p:Int):Nat:=if 0<=p/\p<=xs.length then rdNext xs p.toNat else 0
def ruE (xs:List Nat) (p:Int):Nat:=if 0<=p/\p<=xs.length then (rdN xs p.toNat).2.2 else 1
theorem aBh (a:Option Addr) (len cap:Nat) (xs:List Nat) (p:Int) (w:World) (h:BS w a len cap xs) :
  Calls prog 66 #[.slice a len cap,.int .i64 p] w fun e w' =>
   e=.returned (.tuple #[.int .i64 (ruN xs p),.int .i64 (ruP xs p),.int .i64 (ruE xs p)])/\w'=w:=by
 have hl:=h.hlen;have hr:=h.hroom;have hcap:=h.hcap;by_cases hp:0<=p/\p<=xs.length
 ·have e1:ruN xs p=(rdN xs p.toNat).1:=by unfold ruN;rw [if_pos hp]
  have e2:ruP xs p=rdNext xs p.toNat:=by unfold ruP;rw [if_pos hp]
  have e3:ruE xs p=(rdN xs p.toNat).2.2:=by unfold ruE;rw [if_pos hp]
  rw [e1,e2,e3];obtain ⟨n,hn⟩:=Int.eq_ofNat_of_zero_le hp.1;subst hn;simp only [Int.toNat_natCast];rcases Nat.eq_zero_or_pos len with h0 | h0
  ·have hx:xs=[]:=List.eq_nil_of_length_eq_zero (by omega);have hn0:n=0:=by omega
   subst h0 hx hn0;exact aE9 a cap w
  ·obtain ⟨b,o,rfl,hb,hc⟩:=h.place h0;exact readUint_in b o len cap xs n w h hc (by omega)
 ·have e1:ruN xs p=0:=by unfold ruN;rw [if_neg hp]
  have e2:ruP xs p=0:=by unfold ruP;rw [if_neg hp]
  have e3:ruE xs p=1:=by unfold ruE;rw [if_neg hp]
  rw [e1,e2,e3];exact readUint_arg a len cap p w (by omega) (by omega)
end Go.Proofs.YtmmcebojbbdfmaaGreat
