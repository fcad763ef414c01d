
set_option maxRecDepth 100000
set_option maxHeartbeats 16000000
namespace Go.Proofs.YtibfkdjbnaeneaaGreat
def sh (r:Nat):Nat:=if r % 2=0 then r / 2 else (r / 2) ^^^ 2197175160
def shn:Nat→Nat→Nat
 | 0,r=>r
 | k+1,r=>shn k (sh r)
def stepB (r c:Nat):Nat:=shn 8 (r ^^^ c)
def crc (r:Nat) (bs:List Nat):Nat:=bs.foldl stepB r
theorem xor_div2 (a b:Nat):(a ^^^ b) / 2=a / 2 ^^^ b / 2:=Nat.xor_div_two
theorem xor_mod2 (a b:Nat):(a ^^^ b) % 2=(a % 2+b % 2) % 2:=by
 have h:=Nat.xor_mod_two_eq_one (a:=a) (b:=b)
 omega
theorem sh_lt {r:Nat} (h:r<4294967296):sh r<4294967296:=by
 unfold sh
 split
 ·omega
 ·exact Nat.xor_lt_two_pow (n:=32) (by omega) (by decide)
theorem sh_xor (a b:Nat):sh (a ^^^ b)=sh a ^^^ sh b:=by
 have hm:=xor_mod2 a b
 have hd:=xor_div2 a b
 unfold sh
 rw [hd]
 by_cases ha:a % 2=0<;>by_cases hb:b % 2=0
 ·rw [if_pos ha,if_pos hb,if_pos (by omega)]
 ·rw [if_pos ha,if_neg hb,if_neg (by omega),Nat.xor_assoc]
 ·rw [if_neg ha,if_pos hb,if_neg (by omega)]
  rw [Nat.xor_assoc,Nat.xor_assoc,Nat.xor_comm (b / 2)]
 ·rw [if_neg ha,if_neg hb,if_pos (by omega)]
  rw [Nat.xor_assoc,Nat.xor_comm 2197175160,Nat.xor_assoc,Nat.xor_self,Nat.xor_zero]
theorem aF8 (j k r:Nat):shn (j+k) r=shn k (shn j r):=by
 induction j generalizing r with
 | zero=>simp [shn]
 | succ j ih=>rw [Nat.add_right_comm];exact ih (sh r)
theorem shn_succ (k r:Nat):shn (k+1) r=sh (shn k r):=by rw [aF8];rfl
theorem shn_lt (k:Nat) {r:Nat} (h:r<4294967296):shn k r<4294967296:=by
 induction k generalizing r with
 | zero=>exact h
 | succ k ih=>exact ih (sh_lt h)
theorem aF7 (k a b:Nat):shn k (a ^^^ b)=shn k a ^^^ shn k b:=by
 induction k generalizing a b with
 | zero=>rfl
 | succ k ih=>show shn k (sh (a ^^^ b))=_;rw [sh_xor];exact ih _ _
theorem sh_two (m:Nat):sh (2*m)=m:=by unfold sh;rw [if_pos (by omega)];omega
theorem shn_pow (k m:Nat):shn k (2 ^ k*m)=m:=by
 induction k generalizing m with
 | zero=>simp [shn]
 | succ k ih =>
  show shn k (sh (2 ^ (k+1)*m))=m
  rw [show 2 ^ (k+1)*m=2*(2 ^ k*m) by rw [Nat.pow_succ];simp [Nat.mul_comm,Nat.mul_left_comm],sh_two]
  exact ih m
theorem crc_four (r a b c d:Nat):stepB (stepB (stepB (stepB r a) b) c) d=shn 32 (r ^^^ (a ^^^ (256*b) ^^^ (65536*c) ^^^ (16777216*d))):=by
 unfold stepB
 have hb:b=shn 8 (256*b):=(shn_pow 8 b).symm
 have hc:c=shn 16 (65536*c):=(shn_pow 16 c).symm
 have hd:d=shn 24 (16777216*d):=(shn_pow 24 d).symm
 have e1:shn 8 (r ^^^ a) ^^^ b=shn 8 (r ^^^ a ^^^ 256*b):=by rw [aF7 8 (r ^^^ a) (256*b),←hb]
 rw [e1]
 have e2:shn 8 (shn 8 (r ^^^ a ^^^ 256*b)) ^^^ c=shn 16 (r ^^^ a ^^^ 256*b ^^^ 65536*c):=by
  rw [←aF8 8 8,aF7 16 (r ^^^ a ^^^ 256*b) (65536*c),←hc]
 rw [e2]
 have e3:shn 8 (shn 16 (r ^^^ a ^^^ 256*b ^^^ 65536*c)) ^^^ d=shn 24 (r ^^^ a ^^^ 256*b ^^^ 65536*c ^^^ 16777216*d):=by
  rw [←aF8 16 8,aF7 24 (r ^^^ a ^^^ 256*b ^^^ 65536*c) (16777216*d),←hd]
 rw [e3,←aF8 24 8]
 simp [Nat.xor_assoc]
theorem stepB_lt {r c:Nat} (h:r<4294967296) (hc:c<256):stepB r c<4294967296 :=
 shn_lt 8 (Nat.xor_lt_two_pow (n:=32) h (by omega))
theorem crc_lt {r:Nat} (h:r<4294967296) (bs:List Nat) (hb:∀ c∈bs,c<256):crc r bs<4294967296:=by
 induction bs generalizing r with
 | nil=>exact h
 | cons c bs ih =>
  show crc (stepB r c) bs<_
  exact ih (stepB_lt h (hb c (by simp))) (fun x hx=>hb x (by simp [hx]))
theorem xor_of_and {a b:Nat} (h:a &&& b=0):a ||| b=a ^^^ b:=by
 apply Nat.eq_of_testBit_eq
 intro i
 have hi:(a &&& b).testBit i=false:=by rw [h];simp
 simp only [Nat.testBit_and,Nat.testBit_or,Nat.testBit_xor] at *
 cases h1:a.testBit i<;>cases h2:b.testBit i<;>simp_all
theorem aF2 (k a b:Nat) (h:a<2 ^ k):a ||| 2 ^ k*b=a ^^^ 2 ^ k*b:=by
 apply xor_of_and
 apply Nat.eq_of_testBit_eq
 intro i
 rw [Nat.testBit_and,Nat.testBit_two_pow_mul]
 simp only [Nat.zero_testBit]
 by_cases hk:i≥k
 ·have:a.testBit i=false:=Nat.testBit_lt_two_pow (Nat.lt_of_lt_of_le h (Nat.pow_le_pow_right (by omega) hk))
  simp [this]
 ·simp [hk]
theorem nat_split (k r:Nat):r=r % 2 ^ k ^^^ 2 ^ k*(r / 2 ^ k):=by
 rw [←aF2 k _ _ (Nat.mod_lt _ (Nat.two_pow_pos k)),Nat.or_comm,←Nat.two_pow_add_eq_or_of_lt (Nat.mod_lt _ (Nat.two_pow_pos k))]
 exact (Nat.div_add_mod r (2 ^ k)).symm
end Go.Proofs.YtibfkdjbnaeneaaGreat
namespace Go.Proofs.YtibfkdjbnaeneaaGreat
def rdF:Nat→Nat→List Nat→Nat→Nat×Nat×Nat
 | 0,_,_,_=>(0,0,11)
 | _+1,_,[],_=>(0,0,10)
 | k+1,i,c::r,n=>if i=0∧c=128 then (0,0,11) else if c<128 then (n*128+c % 128,i+1,0) else rdF k (i+1) r (n*128+c % 128)
def rdN (xs:List Nat) (p:Nat):Nat×Nat×Nat:=rdF 9 0 (xs.drop p) 0
def rdNext (xs:List Nat) (p:Nat):Nat:=if (rdN xs p).2.2=0 then p+(rdN xs p).2.1 else 0
theorem aC9 (k i c n:Nat) (r:List Nat):rdF (k+1) i (c::r) n=if i=0∧c=128 then (0,0,11) else if c<128 then (n*128+c % 128,i+1,0) else rdF k (i+1) r (n*128+c % 128):=rfl
theorem aE5 (xs:List Nat) (p:Nat) (h:p<xs.length):xs.drop p=xs.getD p 0::xs.drop (p+1):=by
 rw [List.drop_eq_getElem_cons h,List.getD_eq_getElem?_getD,List.getElem?_eq_getElem h];rfl
theorem drop_none (xs:List Nat) (p:Nat) (h:xs.length≤p):xs.drop p=[]:=List.drop_of_length_le h
theorem rd_full {xs:List Nat} {p m:Nat} (h:rdN xs p=rdF (9-9) 9 (xs.drop (p+9)) m):(rdN xs p).1=0∧rdNext xs p=0∧(rdN xs p).2.2=11:=by
 have e:rdN xs p=(0,0,11):=by rw [h];rfl
 unfold rdNext;rw [e];simp
theorem rd_short {xs:List Nat} {p k m:Nat} (hk:k<9) (he:p+k=xs.length) (h:rdN xs p=rdF (9-k) k (xs.drop (p+k)) m):(rdN xs p).1=0∧rdNext xs p=0∧(rdN xs p).2.2=10:=by
 have e:rdN xs p=(0,0,10):=by rw [h,drop_none xs _ (by omega),show 9-k=(8-k)+1 by omega];rfl
 unfold rdNext;rw [e];simp
theorem rd_form {xs:List Nat} {p m:Nat} (hp:p<xs.length) (hc:xs.getD p 0=128) (h:rdN xs p=rdF (9-0) 0 (xs.drop (p+0)) m):(rdN xs p).1=0∧rdNext xs p=0∧(rdN xs p).2.2=11:=by
 have e:rdN xs p=(0,0,11):=by rw [h,Nat.add_zero,aE5 xs _ hp,hc];rfl
 unfold rdNext;rw [e];simp
theorem rd_done {xs:List Nat} {p k m c:Nat} (hk:k<9) (hp:p+k<xs.length) (hc:xs.getD (p+k) 0=c) (h7:c<128) (h:rdN xs p=rdF (9-k) k (xs.drop (p+k)) m) :
  (rdN xs p).1=m*128+c % 128∧rdNext xs p=p+k+1∧(rdN xs p).2.2=0:=by
 have e:rdN xs p=(m*128+c % 128,k+1,0):=by
  rw [h,aE5 xs _ hp,hc,show 9-k=(8-k)+1 by omega,aC9,if_neg (by omega),if_pos h7]
 unfold rdNext;rw [e];simp;omega
theorem rd_more {xs:List Nat} {p k m c:Nat} (hk:k<9) (hp:p+k<xs.length) (hc:xs.getD (p+k) 0=c) (h7:¬ c<128) (h0:¬ (k=0∧c=128)) (h:rdN xs p=rdF (9-k) k (xs.drop (p+k)) m) :
  rdN xs p=rdF (9-(k+1)) (k+1) (xs.drop (p+(k+1))) (m*128+c % 128):=by
 rw [h,aE5 xs _ hp,hc,show 9-k=(8-k)+1 by omega,aC9,if_neg h0,if_neg h7,show 9-(k+1)=8-k by omega,Nat.add_assoc]
theorem rd_bound {k m c:Nat} (hm:m<128 ^ k):(m*128+c % 128)<128 ^ (k+1):=by
 rw [Nat.pow_succ];omega
theorem pow9 {k:Nat} (hk:k≤9):128 ^ k≤9223372036854775808:=by
 have:=Nat.pow_le_pow_right (n:=128) (by omega) hk
 simpa using this
end Go.Proofs.YtibfkdjbnaeneaaGreat
namespace Go.Proofs.YtibfkdjbnaeneaaGreat
abbrev It:=List Nat×List Nat
def cmpB:List Nat→List Nat→Int
 | [],[]=>0
 | [],_::_=>-1
 | _::_,[]=>1
 | a::x,b::y=>if a<b then -1 else if b<a then 1 else cmpB x y
theorem aA9:∀ x,cmpB x x=0
 | []=>rfl
 | a::x=>by simp [cmpB,aA9 x]
theorem aE8:∀ {x y},cmpB x y=0→x=y
 | [],[],_=>rfl
 | [],_::_,h=>by simp [cmpB] at h
 | _::_,[],h=>by simp [cmpB] at h
 | a::x,b::y,h=>by
  unfold cmpB at h
  split at h
  ·cases h
  ·split at h
   ·cases h
   ·have:a=b:=by omega
    rw [this,aE8 h]
theorem aBx:∀ x y,cmpB y x=- cmpB x y
 | [],[]=>rfl
 | [],_::_=>rfl
 | _::_,[]=>rfl
 | a::x,b::y=>by
  unfold cmpB
  by_cases h1:a<b
  ·have:¬ b<a:=by omega
   simp [h1,this]
  ·by_cases h2:b<a
   ·simp [h1,h2]
   ·simp [h1,h2,aBx x y]
theorem aBq:∀ {x y z},cmpB x y<0→cmpB y z<0→cmpB x z<0
 | [],[],_,h,_=>by simp [cmpB] at h
 | [],_::_,[],_,h=>by simp [cmpB] at h
 | [],_::_,_::_,_,_=>by simp [cmpB]
 | _::_,[],_,h,_=>by simp [cmpB] at h
 | _::_,_::_,[],_,h=>by simp [cmpB] at h
 | a::x,b::y,c::z,h1,h2=>by
  unfold cmpB at h1 h2 ⊢
  by_cases p1:a<b
  ·by_cases p2:b<c
   ·rw [if_pos (by omega)];decide
   ·rw [if_neg p2] at h2
    by_cases p3:c<b
    ·rw [if_pos p3] at h2;omega
    ·rw [if_pos (by omega)];decide
  ·rw [if_neg p1] at h1
   by_cases p2:b<a
   ·rw [if_pos p2] at h1;omega
   ·rw [if_neg p2] at h1
    have e:a=b:=by omega
    subst e
    by_cases p3:a<c
    ·rw [if_pos p3];decide
    ·rw [if_neg p3] at h2 ⊢
     by_cases p4:c<a
     ·rw [if_pos p4] at h2;omega
     ·rw [if_neg p4] at h2 ⊢
      exact aBq h1 h2
theorem cmpB_nil {x:List Nat}:0<cmpB x []↔x≠[]:=by cases x<;>simp [cmpB]
def fndI (l:List It) (k:List Nat):Nat:=l.countP fun x=>decide (cmpB x.1 k<0)
def hasI (l:List It) (k:List Nat):Bool:=(l.map (·.1)).contains k
def Srt (l:List It):Prop:=l.Pairwise fun x y=>cmpB x.1 y.1<0
def putL (l:List It) (it:It):List It:=if hasI l it.1 then l.set (fndI l it.1) it else l.take (fndI l it.1)++it::l.drop (fndI l it.1)
theorem aBb (l:List It) (k:List Nat):fndI l k≤l.length:=List.countP_le_length
def Lo (l:List It) (k:List Nat):Prop:=∀ x∈l,cmpB x.1 k<0
def Hi (l:List It) (k:List Nat):Prop:=∀ x∈l,0<cmpB x.1 k
theorem fndI_lo {l:List It} {k:List Nat} (h:Lo l k):fndI l k=l.length:=by
 unfold fndI
 rw [List.countP_eq_length]
 intro x hx
 exact decide_eq_true (h x hx)
theorem fndI_hi {l:List It} {k:List Nat} (h:Hi l k):fndI l k=0:=by
 unfold fndI
 rw [List.countP_eq_zero]
 intro x hx
 have:=h x hx
 simp;omega
theorem aGm (a b:List It) (k:List Nat):fndI (a++b) k=fndI a k+fndI b k:=by simp [fndI]
theorem hasI_app (a b:List It) (k:List Nat):hasI (a++b) k=(hasI a k || hasI b k):=by
 rw [Bool.eq_iff_iff]
 simp [hasI,List.mem_append]
theorem hasI_lo {l:List It} {k:List Nat} (h:Lo l k):hasI l k=false:=by
 simp only [hasI,List.contains_eq_mem,List.mem_map,decide_eq_false_iff_not]
 rintro ⟨x,hx,rfl⟩
 have:=h x hx
 rw [aA9] at this
 omega
theorem hasI_hi {l:List It} {k:List Nat} (h:Hi l k):hasI l k=false:=by
 simp only [hasI,List.contains_eq_mem,List.mem_map,decide_eq_false_iff_not]
 rintro ⟨x,hx,rfl⟩
 have:=h x hx
 rw [aA9] at this
 omega
theorem Srt.part {l:List It} (h:Srt l) (k:List Nat):Lo (l.take (fndI l k)) k∧∀ x∈l.drop (fndI l k),0≤cmpB x.1 k:=by
 induction l with
 | nil=>exact ⟨fun x hx=>by simp at hx,fun x hx=>by simp at hx⟩
 | cons a l ih =>
  have h1:∀ y∈l,cmpB a.1 y.1<0:=(List.pairwise_cons.1 h).1
  have ih:=ih (List.pairwise_cons.1 h).2
  by_cases q:cmpB a.1 k<0
  ·have e:fndI (a::l) k=fndI l k+1:=by simp [fndI,q]
   rw [e]
   refine ⟨fun x hx=>?_,fun x hx=>ih.2 x (by simpa using hx)⟩
   rcases List.mem_cons.1 (by simpa using hx) with rfl | hx
   ·exact q
   ·exact ih.1 x hx
  ·have hz:∀ y∈l,0≤cmpB y.1 k:=by
    intro y hy
    have:=h1 y hy
    apply Classical.byContradiction
    intro hn
    exact q (aBq this (by omega))
   have e:fndI (a::l) k=0:=by
    unfold fndI
    rw [List.countP_eq_zero]
    intro x hx
    rcases List.mem_cons.1 hx with rfl | hx
    ·simp;omega
    ·have:=hz x hx
     simp;omega
   rw [e]
   refine ⟨fun x hx=>by simp at hx,fun x hx=>?_⟩
   rcases List.mem_cons.1 (by simpa using hx) with rfl | hx
   ·omega
   ·exact hz x hx
theorem Srt.app {a b:List It} (h:Srt (a++b)):Srt a∧Srt b∧∀ x∈a,∀ y∈b,cmpB x.1 y.1<0:=List.pairwise_append.1 h
theorem Srt.has {l:List It} (h:Srt l) (k:List Nat):hasI l k=true↔∃ x,l[fndI l k]?=some x∧x.1=k:=by
 constructor
 ·intro hh
  simp only [hasI,List.contains_eq_mem,List.mem_map,decide_eq_true_eq] at hh
  obtain ⟨x,hx,rfl⟩:=hh
  obtain ⟨a,b,rfl⟩:=List.append_of_mem hx
  obtain ⟨h1,h2,h3⟩:=h.app
  have e1:fndI a x.1=a.length:=fndI_lo fun y hy=>h3 y hy x (by simp)
  have e2:fndI (x::b) x.1=0:=by
   unfold fndI
   rw [List.countP_eq_zero]
   intro y hy
   rcases List.mem_cons.1 hy with rfl | hy
   ·simp [aA9]
   ·have:=(List.pairwise_cons.1 h2).1 y hy
    rw [aBx] at this
    simp;omega
  rw [aGm,e1,e2]
  exact ⟨x,by simp,rfl⟩
 ·rintro ⟨x,hx,rfl⟩
  simp only [hasI,List.contains_eq_mem,List.mem_map,decide_eq_true_eq]
  exact ⟨x,List.mem_of_getElem? hx,rfl⟩
theorem putL_mid {a m b:List It} {it:It} (ha:Lo a it.1) (hb:Hi b it.1) (hm:Srt m):putL (a++(m++b)) it=a++(putL m it++b):=by
 have e:fndI (a++(m++b)) it.1=a.length+fndI m it.1:=by rw [aGm,aGm,fndI_lo ha,fndI_hi hb,Nat.add_zero]
 have e2:hasI (a++(m++b)) it.1=hasI m it.1:=by rw [hasI_app,hasI_app,hasI_lo ha,hasI_hi hb];simp
 have hle:=aBb m it.1
 unfold putL
 rw [e,e2]
 by_cases hh:hasI m it.1=true
 ·obtain ⟨x,hx,_⟩:=(hm.has it.1).1 hh
  have hlt:=(List.getElem?_eq_some_iff.1 hx).1
  rw [if_pos hh,if_pos hh,List.set_append_right _ _ (by omega),Nat.add_sub_cancel_left,List.set_append_left _ _ hlt]
 ·rw [if_neg hh,if_neg hh,List.take_append,List.drop_append,Nat.add_sub_cancel_left,List.take_of_length_le (by omega),List.drop_of_length_le (by omega:a.length≤a.length+_),List.take_append_of_le_length hle,List.drop_append_of_le_length hle]
  simp
theorem aD9 {l:List It} {it:It} (h:Srt l):Srt (putL l it):=by
 obtain ⟨h1,h2⟩:=h.part it.1
 unfold putL
 by_cases hh:hasI l it.1=true
 ·rw [if_pos hh]
  obtain ⟨x,hx,e⟩:=(h.has it.1).1 hh
  have hlt:=(List.getElem?_eq_some_iff.1 hx).1
  have e1:l=l.take (fndI l it.1)++x::l.drop (fndI l it.1+1):=by
   rw [←(List.getElem?_eq_some_iff.1 hx).2,List.getElem_cons_drop,List.take_append_drop]
  rw [List.set_eq_take_append_cons_drop,if_pos hlt]
  rw [e1] at h
  obtain ⟨p1,p2,p3⟩:=h.app
  refine List.pairwise_append.2 ⟨p1,List.pairwise_cons.2 ⟨fun y hy=>?_,(List.pairwise_cons.1 p2).2⟩,fun y hy z hz=>?_⟩
  ·rw [←e];exact (List.pairwise_cons.1 p2).1 y hy
  ·rcases List.mem_cons.1 hz with rfl | hz
   ·rw [←e];exact p3 y hy x (by simp)
   ·exact p3 y hy z (by simp [hz])
 ·rw [if_neg hh]
  have e1:=List.take_append_drop (fndI l it.1) l
  have h':=h
  rw [←e1] at h'
  obtain ⟨p1,p2,p3⟩:=h'.app
  refine List.pairwise_append.2 ⟨p1,List.pairwise_cons.2 ⟨fun y hy=>?_,p2⟩,fun y hy z hz=>?_⟩
  ·have q:=h2 y hy
   have q2:cmpB y.1 it.1≠0:=by
    intro q3
    apply hh
    simp only [hasI,List.contains_eq_mem,List.mem_map,decide_eq_true_eq]
    exact ⟨y,List.mem_of_mem_drop hy,aE8 q3⟩
   rw [aBx];omega
  ·rcases List.mem_cons.1 hz with rfl | hz
   ·exact h1 y hy
   ·exact p3 y hy z hz
end Go.Proofs.YtibfkdjbnaeneaaGreat
namespace Go.Proofs.YtibfkdjbnaeneaaGreat
def BT:Nat→Type
 | 0=>Nat×List It
 | h+1=>Nat×List It×List (BT h)
def ED:Nat→Type
 | 0=>BT 0 ⊕ List It
 | h+1=>BT (h+1) ⊕ (List It×List (ED h))
def BT.id:{h:Nat}→BT h→Nat
 | 0,t=>t.1
 | _+1,t=>t.1
def BT.it:{h:Nat}→BT h→List It
 | 0,t=>t.2
 | _+1,t=>t.2.1
def old:{h:Nat}→BT h→ED h
 | 0,t=>.inl t
 | _+1,t=>.inl t
def weave:List It→List (List It)→List It
 | l,[]=>l
 | [],c::_=>c
 | x::l,c::cs=>c++x::weave l cs
def flB:(h:Nat)→BT h→List It
 | 0,t=>t.2
 | h+1,t=>weave t.2.1 (t.2.2.map (flB h))
def flE:(h:Nat)→ED h→List It
 | 0,.inl t=>flB 0 t
 | 0,.inr l=>l
 | h+1,.inl t=>flB (h+1) t
 | h+1,.inr (l,c)=>weave l (c.map (flE h))
theorem aCu:∀ {h:Nat} (t:BT h),flE h (old t)=flB h t
 | 0,_=>rfl
 | _+1,_=>rfl
def op0:ED 0→List It
 | .inl t=>t.2
 | .inr l=>l
def opS {h:Nat}:ED (h+1)→List It×List (ED h)
 | .inl t=>(t.2.1,t.2.2.map old)
 | .inr x=>x
theorem flE_op0 (e:ED 0):flE 0 (.inr (op0 e))=flE 0 e:=by cases e<;>rfl
theorem flE_opS {h:Nat} (e:ED (h+1)):flE (h+1) (.inr (opS e))=flE (h+1) e:=by
 cases e with
 | inl t =>
  show weave t.2.1 ((t.2.2.map old).map (flE h))=weave t.2.1 (t.2.2.map (flB h))
  rw [List.map_map]
  congr 2
  funext x
  exact aCu x
 | inr x=>rfl
def itE:{h:Nat}→ED h→List It
 | 0,e=>op0 e
 | _+1,e=>(opS e).1
def lefE:{h:Nat}→ED h→ED h
 | 0,e=>.inr ((op0 e).take ((op0 e).length / 2))
 | _+1,e=>.inr ((opS e).1.take ((opS e).1.length / 2),(opS e).2.take ((opS e).1.length / 2+1))
def rigE:{h:Nat}→ED h→ED h
 | 0,e=>.inr ((op0 e).drop ((op0 e).length / 2+1))
 | _+1,e=>.inr ((opS e).1.drop ((opS e).1.length / 2+1),(opS e).2.drop ((opS e).1.length / 2+1))
def midE {h:Nat} (e:ED h):It:=(itE e).getD ((itE e).length / 2) ([],[])
def setl {h:Nat} (l:List It) (c:List (ED h)) (i:Nat):List It×List (ED h) :=
 match c[i]? with
 | some e=>if 4<(itE e).length then (l.take i++midE e::l.drop i,c.take i++lefE e::rigE e::c.drop (i+1)) else (l,c)
 | none=>(l,c)
def putE:(h:Nat)→ED h→It→ED h
 | 0,e,it=>.inr (putL (op0 e) it)
 | h+1,e,it =>
  if hasI (opS e).1 it.1 then .inr ((opS e).1.set (fndI (opS e).1 it.1) it,(opS e).2)
  else match (opS e).2[fndI (opS e).1 it.1]? with
   | some k=>.inr (setl (opS e).1 ((opS e).2.set (fndI (opS e).1 it.1) (putE h k it)) (fndI (opS e).1 it.1))
   | none=>.inr (opS e)
def ShB:(h:Nat)→BT h→Prop
 | 0,t=>t.2.length≤4
 | h+1,t=>t.2.1.length≤4∧t.2.2.length=t.2.1.length+1∧∀ k∈t.2.2,ShB h k∧2≤(BT.it k).length
def ShE:(h m:Nat)→ED h→Prop
 | 0,m,e=>(op0 e).length≤m
 | h+1,m,e=>(opS e).1.length≤m∧(opS e).2.length=(opS e).1.length+1∧∀ k∈(opS e).2,ShE h 4 k∧2≤(itE k).length
theorem aEx:∀ {h:Nat} (t:BT h),itE (old t)=BT.it t
 | 0,_=>rfl
 | _+1,_=>rfl
theorem aCl:∀ {h:Nat} (t:BT h),ShB h t→ShE h 4 (old t)
 | 0,_,h=>h
 | h+1,t,⟨h1,h2,h3⟩=>by
  refine ⟨h1,?_,?_⟩
  ·show (t.2.2.map old).length=_
   rw [List.length_map];exact h2
  ·intro k hk
   obtain ⟨x,hx,rfl⟩:=List.mem_map.1 (show k∈t.2.2.map old from hk)
   rw [aEx]
   exact ⟨aCl x (h3 x hx).1,(h3 x hx).2⟩
theorem weave_nil (l:List It):weave l []=l:=by cases l<;>rfl
def wvL:List It→List (List It)→List It
 | x::l,c::cs=>c++x::wvL l cs
 | _,_=>[]
def wvR:List It→List (List It)→List It
 | x::l,c::cs=>x::(c++wvR l cs)
 | _,_=>[]
theorem aA5:∀ (l:List It) (cs:List (List It)) (i:Nat) (c:List It),cs.length=l.length+1→cs[i]?=some c→weave l cs=wvL (l.take i) (cs.take i)++(c++wvR (l.drop i) (cs.drop (i+1)))
 | [],[c'],0,c,_,h=>by
  simp only [List.getElem?_cons_zero,Option.some.injEq] at h
  subst h
  simp [weave,wvL,wvR]
 | [],[c'],i+1,c,_,h=>by simp at h
 | x::l,c'::cs,0,c,hl,h=>by
  simp only [List.getElem?_cons_zero,Option.some.injEq] at h
  subst h
  simp only [weave,List.take_zero,wvL,List.drop_zero,List.nil_append,List.drop_succ_cons]
  congr 1
  have:∀ (l:List It) (cs:List (List It)) (x:It),cs.length=l.length+1→x::weave l cs=wvR (x::l) cs:=by
   intro l
   induction l with
   | nil =>
    intro cs x h
    match cs,h with
    | [c],_=>simp [weave,wvR]
   | cons y l ih =>
    intro cs x h
    match cs,h with
    | c::cs,h =>
     simp only [weave,wvR]
     rw [ih cs y (by simpa using h)]
  exact this l cs x (by simpa using hl)
 | x::l,c'::cs,i+1,c,hl,h=>by
  have ih:=aA5 l cs i c (by simpa using hl) (by simpa using h)
  simp only [weave,List.take_succ_cons,wvL,List.drop_succ_cons]
  rw [ih]
  simp
end Go.Proofs.YtibfkdjbnaeneaaGreat
namespace Go.Proofs.YtibfkdjbnaeneaaGreat
theorem aAo {α:Type} {l:List α} {i:Nat} {x:α} (h:l[i]?=some x):l=l.take i++x::l.drop (i+1):=by
 rw [←(List.getElem?_eq_some_iff.1 h).2,List.getElem_cons_drop,List.take_append_drop]
theorem aC0:∀ (l1 l2:List It) (c1 c2:List (List It)) (x:It),c1.length=l1.length+1→weave (l1++x::l2) (c1++c2)=weave l1 c1++x::weave l2 c2
 | [],l2,[c],c2,x,_=>by simp [weave]
 | y::l1,l2,c::c1,c2,x,h=>by
  simp only [List.cons_append,weave]
  rw [aC0 l1 l2 c1 c2 x (by simpa using h)]
  simp
theorem aFy:∀ {h:Nat} (e:ED h),ShE h 5 e→4<(itE e).length→flE h e=flE h (lefE e)++midE e::flE h (rigE e)
 | 0,e,_,h5=>by
  show flE 0 e=_
  rw [←flE_op0]
  show op0 e=(op0 e).take _++_::(op0 e).drop _
  have h5:4<(op0 e).length:=h5
  have:(op0 e)[(op0 e).length / 2]?=some (midE e):=by
   show _=some ((op0 e).getD ((op0 e).length / 2) _)
   rw [List.getD_eq_getElem?_getD,List.getElem?_eq_getElem (by omega)]
   rfl
  exact aAo this
 | h+1,e,⟨_,h2,_⟩,h5=>by
  rw [←flE_opS]
  have h5:4<(opS e).1.length:=h5
  generalize hm:(opS e).1.length / 2=m
  have hmid:(opS e).1[m]?=some (midE e):=by
   show _=some ((opS e).1.getD ((opS e).1.length / 2) _)
   rw [hm,List.getD_eq_getElem?_getD,List.getElem?_eq_getElem (by omega)]
   rfl
  have e1:=aAo hmid
  have e2:=(List.take_append_drop (m+1) ((opS e).2.map (flE h))).symm
  show weave (opS e).1 ((opS e).2.map (flE h))=weave ((opS e).1.take ((opS e).1.length / 2)) (((opS e).2.take ((opS e).1.length / 2+1)).map (flE h))++midE e::weave ((opS e).1.drop ((opS e).1.length / 2+1)) (((opS e).2.drop ((opS e).1.length / 2+1)).map (flE h))
  rw [hm,List.map_take,List.map_drop]
  conv=>lhs;rw [e1,e2]
  exact aC0 _ _ _ _ _ (by simp;omega)
theorem fl_setl {h:Nat} (l:List It) (c:List (ED h)) (i:Nat) (hl:c.length=l.length+1) (hs:∀ k,c[i]?=some k→ShE h 5 k) :
  weave (setl l c i).1 ((setl l c i).2.map (flE h))=weave l (c.map (flE h)):=by
 unfold setl
 cases hc:c[i]? with
 | none=>rfl
 | some e =>
  simp only
  split
  ·rename_i h5
   have hi:=(List.getElem?_eq_some_iff.1 hc).1
   have hcm:(c.map (flE h))[i]?=some (flE h e):=by rw [List.getElem?_map,hc];rfl
   rw [aA5 l (c.map (flE h)) i (flE h e) (by simpa using hl) hcm,aFy e (hs e hc) h5]
   have h1:((l.take i++midE e::l.drop i)).length+1=l.length+2:=by simp;omega
   have hcm2:((c.take i++lefE e::rigE e::c.drop (i+1)).map (flE h))[i]?=some (flE h (lefE e)):=by
    rw [List.getElem?_map,List.getElem?_append_right (by simp;omega)]
    simp
    rw [show i-min i c.length=0 by omega]
    simp
   rw [aA5 _ _ i _ (by simp;omega) hcm2]
   have e1:(l.take i++midE e::l.drop i).take i=l.take i:=by rw [List.take_append_of_le_length (by simp;omega),List.take_take,Nat.min_self]
   have e2:((c.take i++lefE e::rigE e::c.drop (i+1)).map (flE h)).take i=(c.map (flE h)).take i:=by
    rw [←List.map_take,←List.map_take,List.take_append_of_le_length (by simp;omega),List.take_take,Nat.min_self]
   have e3:(l.take i++midE e::l.drop i).drop i=midE e::l.drop i:=by
    rw [List.drop_append,List.drop_of_length_le (by simp;omega)]
    simp
    rw [show i-min i l.length=0 by omega]
    rfl
   have e4:((c.take i++lefE e::rigE e::c.drop (i+1)).map (flE h)).drop (i+1)=flE h (rigE e)::(c.map (flE h)).drop (i+1):=by
    rw [←List.map_drop,List.drop_append,List.drop_of_length_le (by simp;omega)]
    simp
    rw [show i+1-min i c.length=1 by omega]
    simp
   rw [e1,e2,e3,e4]
   simp [wvR]
  ·rfl
theorem aBd {h:Nat} {e:ED (h+1)} {it:It} (c:hasI (opS e).1 it.1=true):putE (h+1) e it=Sum.inr ((opS e).1.set (fndI (opS e).1 it.1) it,(opS e).2):=if_pos c
theorem aBu {h:Nat} {e:ED (h+1)} {it:It} (c:¬ hasI (opS e).1 it.1=true) {k:ED h} (hk:(opS e).2[fndI (opS e).1 it.1]?=some k):putE (h+1) e it=Sum.inr (setl (opS e).1 ((opS e).2.set (fndI (opS e).1 it.1) (putE h k it)) (fndI (opS e).1 it.1)) :=
 (if_neg c).trans (by rw [hk])
theorem aBp:∀ {h:Nat} (e:ED h) (it:It),ShE h 4 e→(itE e).length≤(itE (putE h e it)).length∧(itE (putE h e it)).length≤(itE e).length+1
 | 0,e,it,_=>by
  show (op0 e).length≤(putL (op0 e) it).length∧(putL (op0 e) it).length≤_+1
  have:=aBb (op0 e) it.1
  unfold putL
  split
  ·simp [itE]
  ·simp [itE];omega
 | h+1,e,it,⟨h1,h2,h3⟩=>by
  have hle:=aBb (opS e).1 it.1
  by_cases c1:hasI (opS e).1 it.1=true
  ·rw [aBd c1]
   show (opS e).1.length≤((opS e).1.set _ _).length∧((opS e).1.set _ _).length≤(opS e).1.length+1
   simp
  ·rw [aBu c1 (List.getElem?_eq_getElem (by omega))]
   show (opS e).1.length≤(setl _ _ _).1.length∧(setl _ _ _).1.length≤(opS e).1.length+1
   unfold setl
   split
   ·split
    ·simp;omega
    ·simp
   ·simp
theorem Sh_halves:∀ {h:Nat} (e:ED h),ShE h 5 e→4<(itE e).length→(ShE h 4 (lefE e)∧2≤(itE (lefE e)).length)∧(ShE h 4 (rigE e)∧2≤(itE (rigE e)).length)
 | 0,e,h5,h4=>by
  have h5:(op0 e).length≤5:=h5
  have h4:4<(op0 e).length:=h4
  have:(op0 e).length=5:=by omega
  refine ⟨⟨?_,?_⟩,?_,?_⟩
  ·show ((op0 e).take _).length≤4;simp;omega
  ·show 2≤((op0 e).take _).length;simp;omega
  ·show ((op0 e).drop _).length≤4;simp;omega
  ·show 2≤((op0 e).drop _).length;simp;omega
 | h+1,e,⟨h5,h2,h3⟩,h4=>by
  have h4:4<(opS e).1.length:=h4
  have:(opS e).1.length=5:=by omega
  refine ⟨⟨⟨?_,?_,?_⟩,?_⟩,⟨?_,?_,?_⟩,?_⟩
  ·show ((opS e).1.take _).length≤4;simp;omega
  ·show ((opS e).2.take _).length=((opS e).1.take _).length+1;simp;omega
  ·intro k hk;exact h3 k (List.mem_of_mem_take hk)
  ·show 2≤((opS e).1.take _).length;simp;omega
  ·show ((opS e).1.drop _).length≤4;simp;omega
  ·show ((opS e).2.drop _).length=((opS e).1.drop _).length+1;simp;omega
  ·intro k hk;exact h3 k (List.mem_of_mem_drop hk)
  ·show 2≤((opS e).1.drop _).length;simp;omega
theorem Sh_setl {h:Nat} {l:List It} {c:List (ED h)} {i:Nat} (hl:c.length=l.length+1) (h0:∀ j k,j≠i→c[j]?=some k→ShE h 4 k∧2≤(itE k).length) (hs:∀ k,c[i]?=some k→ShE h 5 k∧2≤(itE k).length) (hi:i<c.length) :
  (setl l c i).2.length=(setl l c i).1.length+1∧∀ k∈(setl l c i).2,ShE h 4 k∧2≤(itE k).length:=by
 unfold setl
 rw [List.getElem?_eq_getElem hi]
 have hk:=hs _ (List.getElem?_eq_getElem hi)
 generalize hc:c[i]=e at *
 simp only
 split
 ·rename_i h5
  have hh:=Sh_halves e hk.1 h5
  refine ⟨by simp;omega,fun k hkm=>?_⟩
  rcases List.mem_append.1 hkm with q | q
  ·obtain ⟨j,hj,e1⟩:=List.mem_iff_getElem?.1 q |>.elim (fun j hj=>(⟨j,hj,trivial⟩:∃ j,(c.take i)[j]?=some k∧True))
   have hji:j<i:=by
    have:=(List.getElem?_eq_some_iff.1 hj).1
    simp at this;omega
   rw [List.getElem?_take_of_lt hji] at hj
   exact h0 j k (by omega) hj
  ·rcases List.mem_cons.1 q with rfl | q
   ·exact hh.1
   ·rcases List.mem_cons.1 q with rfl | q
    ·exact hh.2
    ·obtain ⟨j,hj⟩:=List.mem_iff_getElem?.1 q
     rw [List.getElem?_drop] at hj
     exact h0 _ k (by omega) hj
 ·rename_i h5
  refine ⟨hl,fun k hkm=>?_⟩
  obtain ⟨j,hj⟩:=List.mem_iff_getElem?.1 hkm
  by_cases q:j=i
  ·subst q
   rw [List.getElem?_eq_getElem hi,hc] at hj
   simp only [Option.some.injEq] at hj
   subst hj
   refine ⟨?_,hk.2⟩
   match h,e,hk.1,h5 with
   | 0,e,_,h5=>show (op0 e).length≤4;simp only [itE] at h5;omega
   | h+1,e,⟨_,q2,q3⟩,h5=>exact ⟨by simp only [itE] at h5;omega,q2,q3⟩
  ·exact h0 j k q hj
theorem aF1:∀ {h:Nat} (e:ED h) (it:It),ShE h 4 e→ShE h 5 (putE h e it)
 | 0,e,it,hs=>by
  have h1:=(aBp e it hs).2
  show (op0 (putE 0 e it)).length≤5
  simp only [itE] at h1
  have:(op0 e).length≤4:=hs
  omega
 | h+1,e,it,⟨h1,h2,h3⟩=>by
  have hp:=(aBp e it ⟨h1,h2,h3⟩).2
  simp only [itE] at hp
  have hle:=aBb (opS e).1 it.1
  by_cases c1:hasI (opS e).1 it.1=true
  ·rw [aBd c1] at hp ⊢
   refine ⟨by omega,?_,h3⟩
   show (opS e).2.length=((opS e).1.set _ _).length+1
   rw [List.length_set];exact h2
  ·have hi:fndI (opS e).1 it.1<(opS e).2.length:=by omega
   rw [aBu c1 (List.getElem?_eq_getElem hi)] at hp ⊢
   have hkid:=h3 _ (List.getElem_mem hi)
   have hq:=Sh_setl (l:=(opS e).1) (c:=(opS e).2.set (fndI (opS e).1 it.1) (putE h (opS e).2[fndI (opS e).1 it.1] it)) (i:=fndI (opS e).1 it.1) (by rw [List.length_set];exact h2)
    (fun j k hj hk=>h3 k (by rw [List.getElem?_set_ne (by omega)] at hk;exact List.mem_of_getElem? hk))
    (fun k hk=>by
     rw [List.getElem?_set_self (by simpa using hi)] at hk
     simp only [Option.some.injEq] at hk
     subst hk
     exact ⟨aF1 _ it hkid.1,Nat.le_trans hkid.2 (aBp _ it hkid.1).1⟩)
    (by rw [List.length_set];exact hi)
   exact ⟨by omega,hq.1,hq.2⟩
theorem fl_put:∀ {h:Nat} (e:ED h) (it:It),ShE h 4 e→Srt (flE h e)→flE h (putE h e it)=putL (flE h e) it
 | 0,e,it,_,_=>by
  show putL (op0 e) it=_
  rw [←flE_op0 e]
  rfl
 | h+1,e,it,⟨h1,h2,h3⟩,hsr=>by
  have hfe:=flE_opS e
  rw [←hfe] at hsr ⊢
  clear hfe
  have hyes:=@aBd h e it
  have hno:=@aBu h e it
  generalize putE (h+1) e it=r at *
  generalize opS e=x at *
  obtain ⟨l,c⟩:=x
  simp only at h1 h2 h3 hyes hno
  have hsr:Srt (weave l (c.map (flE h))):=hsr
  show flE (h+1) r=putL (weave l (c.map (flE h))) it
  have hle:=aBb l it.1
  have hi:fndI l it.1<c.length:=by omega
  have hsl:Srt l:=by
   have:∀ (l:List It) (cs:List (List It)),cs.length=l.length+1→l.Sublist (weave l cs):=by
    intro l
    induction l with
    | nil=>intro cs _;exact List.nil_sublist _
    | cons y l ih =>
     intro cs h
     match cs,h with
     | c::cs,h=>exact ((ih cs (by simpa using h)).cons_cons y).trans (List.sublist_append_right _ _)
   exact List.Pairwise.sublist (this l _ (by simpa using h2)) hsr
  have hp:=hsl.part it.1
  have hcm:∀ i (hi:i<c.length),(c.map (flE h))[i]?=some (flE h c[i]):=fun i hi=>by rw [List.getElem?_map,List.getElem?_eq_getElem hi];rfl
  by_cases c1:hasI l it.1=true
  ·rw [hyes c1]
   obtain ⟨x,hx,ex⟩:=(hsl.has it.1).1 c1
   have hlt:=(List.getElem?_eq_some_iff.1 hx).1
   show weave (l.set (fndI l it.1) it) (c.map (flE h))=_
   have e1:l=l.take (fndI l it.1)++x::l.drop (fndI l it.1+1):=aAo hx
   have e2:=(List.take_append_drop (fndI l it.1+1) (c.map (flE h))).symm
   have w1:weave l (c.map (flE h))=weave (l.take (fndI l it.1)) ((c.map (flE h)).take (fndI l it.1+1))++x::weave (l.drop (fndI l it.1+1)) ((c.map (flE h)).drop (fndI l it.1+1)):=by
    conv=>lhs;rw [e1,e2]
    exact aC0 _ _ _ _ _ (by simp;omega)
   have w2:weave (l.set (fndI l it.1) it) (c.map (flE h))=weave (l.take (fndI l it.1)) ((c.map (flE h)).take (fndI l it.1+1))++it::weave (l.drop (fndI l it.1+1)) ((c.map (flE h)).drop (fndI l it.1+1)):=by
    rw [List.set_eq_take_append_cons_drop,if_pos hlt]
    conv=>lhs;rw [e2]
    exact aC0 _ _ _ _ _ (by simp;omega)
   rw [w2,w1]
   rw [w1] at hsr
   obtain ⟨p1,p2,p3⟩:=hsr.app
   have hlo:Lo (weave (l.take (fndI l it.1)) ((c.map (flE h)).take (fndI l it.1+1))) it.1:=fun y hy=>by rw [←ex];exact p3 y hy x (by simp)
   have hhi:Hi (weave (l.drop (fndI l it.1+1)) ((c.map (flE h)).drop (fndI l it.1+1))) it.1:=fun y hy=>by
    have:=(List.pairwise_cons.1 p2).1 y hy
    rw [ex,aBx] at this
    omega
   have:=putL_mid (m:=[x]) hlo hhi (List.pairwise_singleton _ _)
   rw [List.singleton_append] at this
   rw [this]
   have e3:putL [x] it=[it]:=by
    unfold putL
    simp [hasI,fndI,ex,aA9]
   rw [e3]
   rfl
  ·rw [hno c1 (List.getElem?_eq_getElem hi)]
   have hkid:=h3 _ (List.getElem_mem hi)
   show weave (setl _ _ _).1 ((setl _ _ _).2.map (flE h))=_
   rw [fl_setl _ _ _ (by rw [List.length_set];exact h2) (fun k hk=>by
    rw [List.getElem?_set_self (by simpa using hi)] at hk
    simp only [Option.some.injEq] at hk
    subst hk
    exact aF1 _ it hkid.1)]
   have hw:=aA5 l (c.map (flE h)) (fndI l it.1) _ (by simpa using h2) (hcm _ hi)
   rw [hw] at hsr ⊢
   obtain ⟨p1,p2,p3⟩:=hsr.app
   obtain ⟨p4,p5,p6⟩:=p2.app
   rw [aA5 l ((c.set (fndI l it.1) (putE h c[fndI l it.1] it)).map (flE h)) (fndI l it.1) (flE h (putE h c[fndI l it.1] it)) (by simpa using h2) (by rw [List.getElem?_map,List.getElem?_set_self (by simpa using hi)];rfl)]
   have t1:((c.set (fndI l it.1) (putE h c[fndI l it.1] it)).map (flE h)).take (fndI l it.1)=(c.map (flE h)).take (fndI l it.1):=by
    rw [←List.map_take,←List.map_take,List.take_set_of_le (Nat.le_refl _)]
   have t2:((c.set (fndI l it.1) (putE h c[fndI l it.1] it)).map (flE h)).drop (fndI l it.1+1)=(c.map (flE h)).drop (fndI l it.1+1):=by
    rw [←List.map_drop,←List.map_drop,List.drop_set_of_lt (by omega)]
   rw [t1,t2,fl_put _ it hkid.1 p4]
   refine (putL_mid ?_ ?_ p4).symm
   · -- ahead of the child: each is at or below an item that is below the key
    intro y hy
    by_cases q:fndI l it.1=0
    ·rw [q] at hy
     simp [wvL] at hy
    ·obtain ⟨z,hz⟩:∃ z,l[fndI l it.1-1]?=some z:=⟨_,List.getElem?_eq_getElem (by omega)⟩
     have hzk:cmpB z.1 it.1<0:=hp.1 z (by
      have:(l.take (fndI l it.1))[fndI l it.1-1]?=some z:=by rw [List.getElem?_take_of_lt (by omega)];exact hz
      exact List.mem_of_getElem? this)
     have hend:∀ (l:List It) (cs:List (List It)) (z:It),cs.length=l.length→l.getLast?=some z→∃ a,wvL l cs=a++[z]:=by
      intro l
      induction l with
      | nil=>intro cs z _ h;simp at h
      | cons x l ih =>
       intro cs z hl h
       match cs,hl with
       | c::cs,hl =>
        cases l with
        | nil =>
         simp only [List.getLast?_singleton,Option.some.injEq] at h
         subst h
         refine ⟨c,?_⟩
         cases cs<;>simp [wvL]
        | cons x2 l =>
         rw [List.getLast?_cons_cons] at h
         obtain ⟨a,ha⟩:=ih cs z (by simpa using hl) h
         refine ⟨c++x::a,?_⟩
         simp only [wvL] at ha ⊢
         rw [ha]
         simp
     obtain ⟨a,ha⟩:=hend (l.take (fndI l it.1)) ((c.map (flE h)).take (fndI l it.1)) z (by simp;omega) (by
      rw [List.getLast?_eq_getElem?,List.length_take,Nat.min_eq_left (by omega),List.getElem?_take_of_lt (by omega)]
      exact hz)
     rw [ha] at hy p1
     rcases List.mem_append.1 hy with hy | hy
     ·exact aBq ((Srt.app p1).2.2 y hy z (by simp)) hzk
     ·simp at hy
      subst hy
      exact hzk
   ·intro y hy
    by_cases q:fndI l it.1=l.length
    ·rw [q,List.drop_length] at hy
     simp [wvR] at hy
    ·obtain ⟨z,hz⟩:∃ z,l[fndI l it.1]?=some z:=⟨_,List.getElem?_eq_getElem (by omega)⟩
     have hd:l.drop (fndI l it.1)=z::l.drop (fndI l it.1+1):=by
      rw [←(List.getElem?_eq_some_iff.1 hz).2,List.getElem_cons_drop]
     have hz0:=hp.2 z (by rw [hd];simp)
     have hzk:0<cmpB z.1 it.1:=by
      have:cmpB z.1 it.1≠0:=by
       intro q3
       exact c1 ((hsl.has it.1).2 ⟨z,hz,aE8 q3⟩)
      omega
     rw [hd] at hy p5
     cases hcd:(c.map (flE h)).drop (fndI l it.1+1) with
     | nil=>rw [hcd] at hy;simp [wvR] at hy
     | cons d ds =>
      rw [hcd] at hy p5
      simp only [wvR] at hy p5
      rcases List.mem_cons.1 hy with rfl | hy
      ·exact hzk
      ·have:=(List.pairwise_cons.1 p5).1 y hy
       have h3':cmpB it.1 z.1<0:=by rw [aBx];omega
       have:=aBq h3' this
       rw [aBx]
       omega
end Go.Proofs.YtibfkdjbnaeneaaGreat
