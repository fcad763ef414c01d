import Derived.Test.YthgleplmbnkacaaGreatY7
import Derived.Test.YthgleplmbnkacaaGreatY11
set_option maxRecDepth 100000
set_option maxHeartbeats 16000000
namespace Go.Proofs.YthgleplmbnkacaaGreat
open Go.RowKit
def dig (n c i:Nat):Nat:=n / 128 ^ (c-1-i) % 128+128
def enc (n:Nat):List Nat:=(List.range (grp n-1)).map (dig n (grp n))++[n % 128]
theorem aAp (n:Nat) (h:1≤grp n):(enc n).length=grp n:=by simp [enc];omega
end Go.Proofs.YthgleplmbnkacaaGreat
namespace Go.Proofs.YthgleplmbnkacaaGreat
def rsf (n:Nat):Nat→List Nat
 | 0=>[n % 128]
 | j+1=>(n / 128 ^ (j+1) % 128+128)::rsf n j
theorem rsf_eq (n:Nat):∀ j,rsf n j=(List.range j).map (fun i=>n / 128 ^ (j-i) % 128+128)++[n % 128]
 | 0=>by simp [rsf]
 | j+1=>by
  rw [rsf,rsf_eq n j,List.range_succ_eq_map]
  simp only [List.map_cons,List.map_map,List.cons_append,Nat.sub_zero]
  congr 2
  apply List.map_congr_left
  intro i _
  simp [Function.comp]
theorem rsf_enc (n:Nat):rsf n (grp n-1)=enc n:=by
 rw [rsf_eq];rfl
end Go.Proofs.YthgleplmbnkacaaGreat
namespace Go.Proofs.YthgleplmbnkacaaGreat
def em (m:Nat):Nat→List Nat
 | 0=>[]
 | j+1=>(m / 128 ^ j % 128+128)::em m j
theorem em_length (m j:Nat):(em m j).length=j:=by induction j with | zero=>rfl | succ j ih=>simp [em,ih]
theorem rsf_em (n:Nat):∀ j,rsf n j=em (n / 128) j++[n % 128]
 | 0=>rfl
 | j+1=>by
  rw [rsf,rsf_em n j,em]
  simp only [List.cons_append]
  congr 2
  rw [Nat.div_div_eq_div_mul,Nat.pow_succ,Nat.mul_comm 128]
theorem enc_em (n:Nat):enc n=em (n / 128) (grp n-1)++[n % 128]:=by rw [←rsf_enc,rsf_em]
def val (n:Nat) (zs:List Nat):Nat:=zs.foldl (fun n c=>n*128+c % 128) n
theorem val_em (m:Nat):∀ j n,val n (em m j)=n*128 ^ j+m % 128 ^ j
 | 0,n=>by simp [val,em,Nat.mod_one]
 | j+1,n=>by
  rw [em]
  show val (n*128+(m / 128 ^ j % 128+128) % 128) (em m j)=_
  rw [val_em m j]
  have e:(m / 128 ^ j % 128+128) % 128=m / 128 ^ j % 128:=by omega
  rw [e,Nat.pow_succ]
  have h1:m % (128 ^ j*128)=m % 128 ^ j+128 ^ j*(m / 128 ^ j % 128):=Nat.mod_mul
  rw [h1,Nat.add_mul,Nat.mul_assoc,Nat.mul_comm 128 (128 ^ j),Nat.mul_comm (m / 128 ^ j % 128)]
  omega
theorem rdF_run:∀ (zs:List Nat) (k i c n:Nat) (rest:List Nat),(∀ z∈zs,128≤z)→(i=0→zs.head?≠some 128)→zs.length<k→c<128 →
  rdF k i (zs++c::rest) n=(val n zs*128+c,i+zs.length+1,0)
 | [],k,i,c,n,rest=>by
  intro _ _ hk hc
  obtain ⟨k,rfl⟩:∃ j,k=j+1:=⟨k-1,by simp at hk;omega⟩
  rw [List.nil_append,aB8,if_neg (by omega),if_pos hc]
  simp [val]
  omega
 | z::zs,k,i,c,n,rest=>by
  intro hz h0 hk hc
  obtain ⟨k,rfl⟩:∃ j,k=j+1:=⟨k-1,by simp at hk;omega⟩
  have hz1:=hz z (by simp)
  rw [List.cons_append,aB8,if_neg (fun h=>h0 h.1 (by simp [h.2])),if_neg (by omega),rdF_run zs k (i+1) c _ rest (fun x hx=>hz x (by simp [hx])) (by omega) (by simp at hk;omega) hc]
  simp [val]
  omega
theorem em_marked (m j:Nat):∀ z∈em m j,128≤z:=by
 induction j with
 | zero=>simp [em]
 | succ j ih =>
  intro z hz
  simp only [em,List.mem_cons] at hz
  rcases hz with rfl | hz
  ·omega
  ·exact ih z hz
theorem rd_enc (n:Nat) (h:n<9223372036854775808) (pre rest:List Nat):rdN (pre++(enc n++rest)) pre.length=(n,grp n,0):=by
 obtain ⟨g1,g2,g3,g4,g5⟩:=aAz n h
 unfold rdN
 rw [List.drop_left,enc_em,List.append_assoc,List.singleton_append]
 have hm:n / 128<128 ^ (grp n-1):=by
  have e:128 ^ grp n=128 ^ (grp n-1)*128:=by rw [←Nat.pow_succ];congr 1;omega
  rw [e] at g3
  exact Nat.div_lt_of_lt_mul (by rw [Nat.mul_comm];exact g3)
 rw [rdF_run _ 9 0 (n % 128) 0 rest (em_marked _ _) ?_ (by rw [em_length];omega) (by omega),val_em,em_length,Nat.mod_eq_of_lt hm]
 ·refine Prod.ext (by simp;omega) (Prod.ext (by simp;omega) rfl)
 ·intro _
  rcases Nat.eq_zero_or_pos (grp n-1) with z | z
  ·rw [z];simp [em]
  ·obtain ⟨j,hj⟩:∃ j,grp n-1=j+1:=⟨grp n-2,by omega⟩
   rw [hj] at hm ⊢
   have hn0:n≠0:=fun h=>by have:=g5 h;omega
   have h4:=g4 hn0
   rw [hj,Nat.pow_succ] at h4
   rw [em]
   simp only [List.head?_cons,ne_eq,oI]
   have hd:n / 128 / 128 ^ j<128:=Nat.div_lt_of_lt_mul (by rw [←Nat.pow_succ];exact hm)
   have hd2:1≤n / 128 / 128 ^ j:=(Nat.le_div_iff_mul_le (Nat.pow_pos (by decide))).2 (by
    rw [Nat.one_mul]
    exact (Nat.le_div_iff_mul_le (by decide)).2 h4)
   omega
end Go.Proofs.YthgleplmbnkacaaGreat
