
set_option maxRecDepth 100000
set_option maxHeartbeats 16000000
namespace Go.Proofs.YtmmcebojbbdfmaaGreat
variable {c k m p:Nat} {xs:List Nat}
def rdFW:Nat->Nat->List Nat->Nat->Nat×Nat×Nat
 | 0,_,_,_=>(0,0,11)
 | _+1,_,[],_=>(0,0,10)
 | k+1,i,c::r,n=>if i=0/\c=128 then (0,0,11) else if c<128 then (n*128+c % 128,i+1,0) else rdFW k (i+1) r (n*128+c % 128)
def rdN (xs:List Nat) (p:Nat):Nat×Nat×Nat:=rdFW 9 0 (xs.drop p) 0
def rdNext (xs:List Nat) (p:Nat):Nat:=if (rdN xs p).2.2=0 then p+(rdN xs p).2.1 else 0
theorem aC2 (k i c n:Nat) (r:List Nat):rdFW (k+1) i (c::r) n=if i=0/\c=128 then (0,0,11) else if c<128 then (n*128+c % 128,i+1,0) else rdFW k (i+1) r (n*128+c % 128):=rfl
theorem aE2 (xs:List Nat) (p:Nat) (h:p<xs.length):xs.drop p=xs.getD p 0::xs.drop (p+1):=by
 rw [List.drop_eq_getElem_cons h,List.getD_eq_getElem?_getD,List.getElem?_eq_getElem h];rfl
theorem drop_none (xs:List Nat) (p:Nat) (h:xs.length<=p):xs.drop p=[]:=List.drop_of_length_le h
theorem rd_full (h:rdN xs p=rdFW (9-9) 9 (xs.drop (p+9)) m):(rdN xs p).1=0/\rdNext xs p=0/\(rdN xs p).2.2=11:=by
 have e:rdN xs p=(0,0,11):=by rw [h];rfl
 unfold rdNext;rw [e];simp
theorem rd_short (hk:k<9) (he:p+k=xs.length) (h:rdN xs p=rdFW (9-k) k (xs.drop (p+k)) m):(rdN xs p).1=0/\rdNext xs p=0/\(rdN xs p).2.2=10:=by
 have e:rdN xs p=(0,0,10):=by rw [h,drop_none xs _ (by omega),show 9-k=(8-k)+1 by omega];rfl
 unfold rdNext;rw [e];simp
theorem rd_form (hp:p<xs.length) (hc:xs.getD p 0=128) (h:rdN xs p=rdFW (9-0) 0 (xs.drop (p+0)) m):(rdN xs p).1=0/\rdNext xs p=0/\(rdN xs p).2.2=11:=by
 have e:rdN xs p=(0,0,11):=by rw [h,Nat.add_zero,aE2 xs _ hp,hc];rfl
 unfold rdNext;rw [e];simp
theorem rd_done (hk:k<9) (hp:p+k<xs.length) (hc:xs.getD (p+k) 0=c) (h7:c<128) (h:rdN xs p=rdFW (9-k) k (xs.drop (p+k)) m) :
  (rdN xs p).1=m*128+c % 128/\rdNext xs p=p+k+1/\(rdN xs p).2.2=0:=by
 have e:rdN xs p=(m*128+c % 128,k+1,0):=by
  rw [h,aE2 xs _ hp,hc,show 9-k=(8-k)+1 by omega,aC2,if_neg (by omega),if_pos h7]
 unfold rdNext;rw [e];simp;omega
theorem rd_more (hk:k<9) (hp:p+k<xs.length) (hc:xs.getD (p+k) 0=c) (h7:¬ c<128) (h0:¬ (k=0/\c=128)) (h:rdN xs p=rdFW (9-k) k (xs.drop (p+k)) m) :
  rdN xs p=rdFW (9-(k+1)) (k+1) (xs.drop (p+(k+1))) (m*128+c % 128):=by
 rw [h,aE2 xs _ hp,hc,show 9-k=(8-k)+1 by omega,aC2,if_neg h0,if_neg h7,show 9-(k+1)=8-k by omega,Nat.add_assoc]
theorem rd_bound (hm:m<128 ^ k):(m*128+c % 128)<128 ^ (k+1):=by
 rw [Nat.pow_succ];omega
theorem pow9 (hk:k<=9):128 ^ k<=9223372036854775808:=by
 have:=Nat.pow_le_pow_right (n:=128) (by omega) hk;simpa using this
end Go.Proofs.YtmmcebojbbdfmaaGreat
