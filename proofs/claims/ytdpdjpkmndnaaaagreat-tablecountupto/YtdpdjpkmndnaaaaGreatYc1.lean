import Derived.Test.YtdpdjpkmndnaaaaGreatProg
import Derived.WalkKit
import Derived.WalkSpells
import Derived.WalkLawsBesides
import Derived.Lib.BitFns
import Derived.Lib.Walk

set_option maxRecDepth 100000
set_option maxHeartbeats 16000000
namespace Go.Proofs.YtdpdjpkmndnaaaaGreat
def sh (r:Nat):Nat:=if r % 2=0 then r / 2 else (r / 2) ^^^ 2197175160
def shn:Nat->Nat->Nat
 | 0,r=>r
 | k+1,r=>shn k (sh r)
def stepB (r c:Nat):Nat:=shn 8 (r ^^^ c)
def crc (r:Nat) (bs:List Nat):Nat:=bs.foldl stepB r
theorem xor_div2 (a b:Nat):(a ^^^ b) / 2=a / 2 ^^^ b / 2:=Nat.xor_div_two
theorem xor_mod2 (a b:Nat):(a ^^^ b) % 2=(a % 2+b % 2) % 2:=by
 have h:=Nat.xor_mod_two_eq_one (a:=a) (b:=b);omega
theorem sh_lt {r:Nat} (h:r<4294967296):sh r<4294967296:=by
 unfold sh;split
 ·omega
 ·exact Nat.xor_lt_two_pow (n:=32) (by omega) (by decide)
theorem sh_xor (a b:Nat):sh (a ^^^ b)=sh a ^^^ sh b:=by
 have hm:=xor_mod2 a b;have hd:=xor_div2 a b;unfold sh;rw [hd];by_cases ha:a % 2=0<;>by_cases hb:b % 2=0
 ·rw [if_pos ha,if_pos hb,if_pos (by omega)]
 ·rw [if_pos ha,if_neg hb,if_neg (by omega),Nat.xor_assoc]
 ·rw [if_neg ha,if_pos hb,if_neg (by omega)];rw [Nat.xor_assoc,Nat.xor_assoc,Nat.xor_comm (b / 2)]
 ·rw [if_neg ha,if_neg hb,if_pos (by omega)];rw [Nat.xor_assoc,Nat.xor_comm 2197175160,Nat.xor_assoc,Nat.xor_self,Nat.xor_zero]
theorem aJa (j k r:Nat):shn (j+k) r=shn k (shn j r):=by
 induction j generalizing r with
 | zero=>simp [shn]
 | succ j ih=>rw [Nat.add_right_comm];exact ih (sh r)
theorem shn_succ (k r:Nat):shn (k+1) r=sh (shn k r):=by rw [aJa];rfl
theorem shn_lt (k:Nat) {r:Nat} (h:r<4294967296):shn k r<4294967296:=by
 induction k generalizing r with
 | zero=>exact h
 | succ k ih=>exact ih (sh_lt h)
theorem aI9 (k a b:Nat):shn k (a ^^^ b)=shn k a ^^^ shn k b:=by
 induction k generalizing a b with
 | zero=>rfl
 | succ k ih=>show shn k (sh (a ^^^ b))=_;rw [sh_xor];exact ih _ _
theorem sh_two (m:Nat):sh (2*m)=m:=by unfold sh;rw [if_pos (by omega)];omega
theorem shn_pow (k m:Nat):shn k (2 ^ k*m)=m:=by
 induction k generalizing m with
 | zero=>simp [shn]
 | succ k ih =>
  show shn k (sh (2 ^ (k+1)*m))=m;rw [show 2 ^ (k+1)*m=2*(2 ^ k*m) by rw [Nat.pow_succ];simp [Nat.mul_comm,Nat.mul_left_comm],sh_two];exact ih m
theorem crc_four (r a b c d:Nat):stepB (stepB (stepB (stepB r a) b) c) d=shn 32 (r ^^^ (a ^^^ (256*b) ^^^ (65536*c) ^^^ (16777216*d))):=by
 unfold stepB;have hb:b=shn 8 (256*b):=(shn_pow 8 b).symm;have hc:c=shn 16 (65536*c):=(shn_pow 16 c).symm;have hd:d=shn 24 (16777216*d):=(shn_pow 24 d).symm;have e1:shn 8 (r ^^^ a) ^^^ b=shn 8 (r ^^^ a ^^^ 256*b):=by rw [aI9 8 (r ^^^ a) (256*b),<-hb]
 rw [e1];have e2:shn 8 (shn 8 (r ^^^ a ^^^ 256*b)) ^^^ c=shn 16 (r ^^^ a ^^^ 256*b ^^^ 65536*c):=by
  rw [<-aJa 8 8,aI9 16 (r ^^^ a ^^^ 256*b) (65536*c),<-hc]
 rw [e2];have e3:shn 8 (shn 16 (r ^^^ a ^^^ 256*b ^^^ 65536*c)) ^^^ d=shn 24 (r ^^^ a ^^^ 256*b ^^^ 65536*c ^^^ 16777216*d):=by
  rw [<-aJa 16 8,aI9 24 (r ^^^ a ^^^ 256*b ^^^ 65536*c) (16777216*d),<-hd]
 rw [e3,<-aJa 24 8];simp [Nat.xor_assoc]
theorem stepB_lt {r c:Nat} (h:r<4294967296) (hc:c<256):stepB r c<4294967296 :=
 shn_lt 8 (Nat.xor_lt_two_pow (n:=32) h (by omega))
theorem crc_lt {r:Nat} (h:r<4294967296) (bs:List Nat) (hb:∀ c∈bs,c<256):crc r bs<4294967296:=by
 induction bs generalizing r with
 | nil=>exact h
 | cons c bs ih =>
  show crc (stepB r c) bs<_;exact ih (stepB_lt h (hb c (by simp))) (fun x hx=>hb x (by simp [hx]))
theorem xor_of_and {a b:Nat} (h:a &&& b=0):a ||| b=a ^^^ b:=by
 apply Nat.eq_of_testBit_eq;intro i;have hi:(a &&& b).testBit i=false:=by rw [h];simp
 simp only [Nat.testBit_and,Nat.testBit_or,Nat.testBit_xor] at *
 cases h1:a.testBit i<;>cases h2:b.testBit i<;>simp_all
theorem aI3 (k a b:Nat) (h:a<2 ^ k):a ||| 2 ^ k*b=a ^^^ 2 ^ k*b:=by
 apply xor_of_and;apply Nat.eq_of_testBit_eq;intro i;rw [Nat.testBit_and,Nat.testBit_two_pow_mul];simp only [Nat.zero_testBit];by_cases hk:i≥k
 ·have:a.testBit i=false:=Nat.testBit_lt_two_pow (Nat.lt_of_lt_of_le h (Nat.pow_le_pow_right (by omega) hk));simp [this]
 ·simp [hk]
theorem nat_split (k r:Nat):r=r % 2 ^ k ^^^ 2 ^ k*(r / 2 ^ k):=by
 rw [<-aI3 k _ _ (Nat.mod_lt _ (Nat.two_pow_pos k)),Nat.or_comm,<-Nat.two_pow_add_eq_or_of_lt (Nat.mod_lt _ (Nat.two_pow_pos k))];exact (Nat.div_add_mod r (2 ^ k)).symm
end Go.Proofs.YtdpdjpkmndnaaaaGreat
namespace Go.Proofs.YtdpdjpkmndnaaaaGreat
variable {c k m p:Nat} {xs:List Nat}
def rdF:Nat->Nat->List Nat->Nat->Nat×Nat×Nat
 | 0,_,_,_=>(0,0,11)
 | _+1,_,[],_=>(0,0,10)
 | k+1,i,c::r,n=>if i=0/\c=128 then (0,0,11) else if c<128 then (n*128+c % 128,i+1,0) else rdF k (i+1) r (n*128+c % 128)
def rdN (xs:List Nat) (p:Nat):Nat×Nat×Nat:=rdF 9 0 (xs.drop p) 0
def rdNext (xs:List Nat) (p:Nat):Nat:=if (rdN xs p).2.2=0 then p+(rdN xs p).2.1 else 0
theorem aD7 (k i c n:Nat) (r:List Nat):rdF (k+1) i (c::r) n=if i=0/\c=128 then (0,0,11) else if c<128 then (n*128+c % 128,i+1,0) else rdF k (i+1) r (n*128+c % 128):=rfl
theorem aIa (xs:List Nat) (p:Nat) (h:p<xs.length):xs.drop p=xs.getD p 0::xs.drop (p+1):=by
 rw [List.drop_eq_getElem_cons h,List.getD_eq_getElem?_getD,List.getElem?_eq_getElem h];rfl
theorem drop_none (xs:List Nat) (p:Nat) (h:xs.length<=p):xs.drop p=[]:=List.drop_of_length_le h
theorem rd_full (h:rdN xs p=rdF (9-9) 9 (xs.drop (p+9)) m):(rdN xs p).1=0/\rdNext xs p=0/\(rdN xs p).2.2=11:=by
 have e:rdN xs p=(0,0,11):=by rw [h];rfl
 unfold rdNext;rw [e];simp
theorem rd_short (hk:k<9) (he:p+k=xs.length) (h:rdN xs p=rdF (9-k) k (xs.drop (p+k)) m):(rdN xs p).1=0/\rdNext xs p=0/\(rdN xs p).2.2=10:=by
 have e:rdN xs p=(0,0,10):=by rw [h,drop_none xs _ (by omega),show 9-k=(8-k)+1 by omega];rfl
 unfold rdNext;rw [e];simp
theorem rd_form (hp:p<xs.length) (hc:xs.getD p 0=128) (h:rdN xs p=rdF (9-0) 0 (xs.drop (p+0)) m):(rdN xs p).1=0/\rdNext xs p=0/\(rdN xs p).2.2=11:=by
 have e:rdN xs p=(0,0,11):=by rw [h,Nat.add_zero,aIa xs _ hp,hc];rfl
 unfold rdNext;rw [e];simp
theorem rd_done (hk:k<9) (hp:p+k<xs.length) (hc:xs.getD (p+k) 0=c) (h7:c<128) (h:rdN xs p=rdF (9-k) k (xs.drop (p+k)) m) :
  (rdN xs p).1=m*128+c % 128/\rdNext xs p=p+k+1/\(rdN xs p).2.2=0:=by
 have e:rdN xs p=(m*128+c % 128,k+1,0):=by
  rw [h,aIa xs _ hp,hc,show 9-k=(8-k)+1 by omega,aD7,if_neg (by omega),if_pos h7]
 unfold rdNext;rw [e];simp;omega
theorem rd_more (hk:k<9) (hp:p+k<xs.length) (hc:xs.getD (p+k) 0=c) (h7:¬ c<128) (h0:¬ (k=0/\c=128)) (h:rdN xs p=rdF (9-k) k (xs.drop (p+k)) m) :
  rdN xs p=rdF (9-(k+1)) (k+1) (xs.drop (p+(k+1))) (m*128+c % 128):=by
 rw [h,aIa xs _ hp,hc,show 9-k=(8-k)+1 by omega,aD7,if_neg h0,if_neg h7,show 9-(k+1)=8-k by omega,Nat.add_assoc]
theorem rd_bound (hm:m<128 ^ k):(m*128+c % 128)<128 ^ (k+1):=by
 rw [Nat.pow_succ];omega
theorem pow9 (hk:k<=9):128 ^ k<=9223372036854775808:=by
 have:=Nat.pow_le_pow_right (n:=128) (by omega) hk;simpa using this
end Go.Proofs.YtdpdjpkmndnaaaaGreat
namespace Go.Proofs.YtdpdjpkmndnaaaaGreat
abbrev It:=List Nat×List Nat
def cmpB:List Nat->List Nat->Int
 | [],[]=>0
 | [],_::_=>-1
 | _::_,[]=>1
 | a::x,b::y=>if a<b then -1 else if b<a then 1 else cmpB x y
theorem aAr:∀ x,cmpB x x=0
 | []=>rfl
 | a::x=>by simp [cmpB,aAr x]
theorem aDd:∀ {x y},cmpB x y=0->x=y
 | [],[],_=>rfl
 | [],_::_,h=>by simp [cmpB] at h
 | _::_,[],h=>by simp [cmpB] at h
 | a::x,b::y,h=>by
  unfold cmpB at h
  split at h
  ·cases h
  ·split at h
   ·cases h
   ·have:a=b:=by omega
    rw [this,aDd h]
theorem aDc:∀ x y,cmpB y x=- cmpB x y
 | [],[]=>rfl
 | [],_::_=>rfl
 | _::_,[]=>rfl
 | a::x,b::y=>by
  unfold cmpB
  by_cases h1:a<b
  ·have:¬ b<a:=by omega
   simp [h1,this]
  ·by_cases h2:b<a
   ·simp [h1,h2]
   ·simp [h1,h2,aDc x y]
theorem aKa:∀ x y,cmpB x y=-1\/cmpB x y=0\/cmpB x y=1
 | [],[]=>Or.inr (Or.inl rfl)
 | [],_::_=>Or.inl rfl
 | _::_,[]=>Or.inr (Or.inr rfl)
 | a::x,b::y=>by
  unfold cmpB
  split
  ·exact Or.inl rfl
  ·split
   ·exact Or.inr (Or.inr rfl)
   ·exact aKa x y
theorem aA2:∀ {x y z},cmpB x y<0->cmpB y z<0->cmpB x z<0
 | [],[],_,h,_=>by simp [cmpB] at h
 | [],_::_,[],_,h=>by simp [cmpB] at h
 | [],_::_,_::_,_,_=>by simp [cmpB]
 | _::_,[],_,h,_=>by simp [cmpB] at h
 | _::_,_::_,[],_,h=>by simp [cmpB] at h
 | a::x,b::y,c::z,h1,h2=>by
  unfold cmpB at h1 h2 ⊢
  by_cases p1:a<b
  ·by_cases p2:b<c
   ·rw [if_pos (by omega)];decide
   ·rw [if_neg p2] at h2
    by_cases p3:c<b
    ·rw [if_pos p3] at h2;omega
    ·rw [if_pos (by omega)];decide
  ·rw [if_neg p1] at h1
   by_cases p2:b<a
   ·rw [if_pos p2] at h1;omega
   ·rw [if_neg p2] at h1
    have e:a=b:=by omega
    subst e;by_cases p3:a<c
    ·rw [if_pos p3];decide
    ·rw [if_neg p3] at h2 ⊢;by_cases p4:c<a
     ·rw [if_pos p4] at h2;omega
     ·rw [if_neg p4] at h2 ⊢;exact aA2 h1 h2
theorem cmpB_nil {x:List Nat}:0<cmpB x []↔x≠[]:=by cases x<;>simp [cmpB]
def fndI (l:List It) (k:List Nat):Nat:=l.countP fun x=>decide (cmpB x.1 k<0)
def hasI (l:List It) (k:List Nat):Bool:=(l.map (·.1)).contains k
def Srt (l:List It):Prop:=l.Pairwise fun x y=>cmpB x.1 y.1<0
theorem aJ3 (l:List It) (k:List Nat):fndI l k<=l.length:=List.countP_le_length
def Lo (l:List It) (k:List Nat):Prop:=∀ x∈l,cmpB x.1 k<0
theorem fndI_lo {l:List It} {k:List Nat} (h:Lo l k):fndI l k=l.length:=by
 unfold fndI;rw [List.countP_eq_length];intro x hx;exact decide_eq_true (h x hx)
theorem fndI_app (a b:List It) (k:List Nat):fndI (a++b) k=fndI a k+fndI b k:=by simp [fndI]
theorem Srt.part {l:List It} (h:Srt l) (k:List Nat):Lo (l.take (fndI l k)) k/\∀ x∈l.drop (fndI l k),0<=cmpB x.1 k:=by
 induction l with
 | nil=>exact ⟨fun x hx=>by simp at hx,fun x hx=>by simp at hx⟩
 | cons a l ih =>
  have h1:∀ y∈l,cmpB a.1 y.1<0:=(List.pairwise_cons.1 h).1;have ih:=ih (List.pairwise_cons.1 h).2;by_cases q:cmpB a.1 k<0
  ·have e:fndI (a::l) k=fndI l k+1:=by simp [fndI,q]
   rw [e];refine ⟨fun x hx=>?_,fun x hx=>ih.2 x (by simpa using hx)⟩;rcases List.mem_cons.1 (by simpa using hx) with rfl | hx
   ·exact q
   ·exact ih.1 x hx
  ·have hz:∀ y∈l,0<=cmpB y.1 k:=by
    intro y hy;have:=h1 y hy;apply Classical.byContradiction;intro hn;exact q (aA2 this (by omega))
   have e:fndI (a::l) k=0:=by
    unfold fndI;rw [List.countP_eq_zero];intro x hx;rcases List.mem_cons.1 hx with rfl | hx
    ·simp;omega
    ·have:=hz x hx;simp;omega
   rw [e];refine ⟨fun x hx=>by simp at hx,fun x hx=>?_⟩;rcases List.mem_cons.1 (by simpa using hx) with rfl | hx
   ·omega
   ·exact hz x hx
theorem Srt.app {a b:List It} (h:Srt (a++b)):Srt a/\Srt b/\∀ x∈a,∀ y∈b,cmpB x.1 y.1<0:=List.pairwise_append.1 h
theorem Srt.has {l:List It} (h:Srt l) (k:List Nat):hasI l k=true↔∃ x,l[fndI l k]?=some x/\x.1=k:=by
 constructor
 ·intro hh;simp only [hasI,List.contains_eq_mem,List.mem_map,decide_eq_true_eq] at hh;obtain ⟨x,hx,rfl⟩:=hh;obtain ⟨a,b,rfl⟩:=List.append_of_mem hx;obtain ⟨h1,h2,h3⟩:=h.app;have e1:fndI a x.1=a.length:=fndI_lo fun y hy=>h3 y hy x (by simp)
  have e2:fndI (x::b) x.1=0:=by
   unfold fndI;rw [List.countP_eq_zero];intro y hy;rcases List.mem_cons.1 hy with rfl | hy
   ·simp [aAr]
   ·have:=(List.pairwise_cons.1 h2).1 y hy;rw [aDc] at this;simp;omega
  rw [fndI_app,e1,e2];exact ⟨x,by simp,rfl⟩
 ·rintro ⟨x,hx,rfl⟩;simp only [hasI,List.contains_eq_mem,List.mem_map,decide_eq_true_eq];exact ⟨x,List.mem_of_getElem? hx,rfl⟩
end Go.Proofs.YtdpdjpkmndnaaaaGreat
namespace Go.Proofs.YtdpdjpkmndnaaaaGreat
def BT:Nat->Type
 | 0=>Nat×List It
 | h+1=>Nat×List It×List (BT h)
def ED:Nat->Type
 | 0=>BT 0 ⊕ List It
 | h+1=>BT (h+1) ⊕ (List It×List (ED h))
def BT.id:{h:Nat}->BT h->Nat
 | 0,t=>t.1
 | _+1,t=>t.1
def BT.it:{h:Nat}->BT h->List It
 | 0,t=>t.2
 | _+1,t=>t.2.1
def old:{h:Nat}->BT h->ED h
 | 0,t=>.inl t
 | _+1,t=>.inl t
def weave:List It->List (List It)->List It
 | l,[]=>l
 | [],c::_=>c
 | x::l,c::cs=>c++x::weave l cs
def flB:(h:Nat)->BT h->List It
 | 0,t=>t.2
 | h+1,t=>weave t.2.1 (t.2.2.map (flB h))
def ShB:(h:Nat)->BT h->Prop
 | 0,t=>t.2.length<=4
 | h+1,t=>t.2.1.length<=4/\t.2.2.length=t.2.1.length+1/\∀ k∈t.2.2,ShB h k/\2<=(BT.it k).length
theorem weave_nil (l:List It):weave l []=l:=by cases l<;>rfl
def wvL:List It->List (List It)->List It
 | x::l,c::cs=>c++x::wvL l cs
 | _,_=>[]
def wvR:List It->List (List It)->List It
 | x::l,c::cs=>x::(c++wvR l cs)
 | _,_=>[]
theorem aC2:∀ (l:List It) (cs:List (List It)) (i:Nat) (c:List It),cs.length=l.length+1->cs[i]?=some c->weave l cs=wvL (l.take i) (cs.take i)++(c++wvR (l.drop i) (cs.drop (i+1)))
 | [],[c'],0,c,_,h=>by
  simp only [List.getElem?_cons_zero,Option.some.injEq] at h
  subst h
  simp [weave,wvL,wvR]
 | [],[c'],i+1,c,_,h=>by simp at h
 | x::l,c'::cs,0,c,hl,h=>by
  simp only [List.getElem?_cons_zero,Option.some.injEq] at h
  subst h
  simp only [weave,List.take_zero,wvL,List.drop_zero,List.nil_append,List.drop_succ_cons]
  congr 1
  have:∀ (l:List It) (cs:List (List It)) (x:It),cs.length=l.length+1->x::weave l cs=wvR (x::l) cs:=by
   intro l
   induction l with
   | nil =>
    intro cs x h
    match cs,h with
    | [c],_=>simp [weave,wvR]
   | cons y l ih =>
    intro cs x h
    match cs,h with
    | c::cs,h =>
     simp only [weave,wvR];rw [ih cs y (by simpa using h)]
  exact this l cs x (by simpa using hl)
 | x::l,c'::cs,i+1,c,hl,h=>by
  have ih:=aC2 l cs i c (by simpa using hl) (by simpa using h);simp only [weave,List.take_succ_cons,wvL,List.drop_succ_cons];rw [ih];simp
end Go.Proofs.YtdpdjpkmndnaaaaGreat
namespace Go.Proofs.YtdpdjpkmndnaaaaGreat
theorem aEz {α:Type} {l:List α} {i:Nat} {x:α} (h:l[i]?=some x):l=l.take i++x::l.drop (i+1):=by
 rw [<-(List.getElem?_eq_some_iff.1 h).2,List.getElem_cons_drop,List.take_append_drop]
end Go.Proofs.YtdpdjpkmndnaaaaGreat
set_option linter.unusedVariables false
namespace Go.Proofs.YtdpdjpkmndnaaaaGreat
structure Ch where
 sp:Int
 key:List Nat
 val:List Nat
 gone:Bool
 deriving DecidableEq
def SrC (l:List Ch):Prop:=l.Pairwise fun x y=>cmpB x.key y.key<0
def insC (c:Ch):List Ch->List Ch
 | []=>[c]
 | d::l=>if cmpB c.key d.key<0 then c::d::l else if cmpB c.key d.key=0 then c::l else d::insC c l
def lastL (P:Ch->Bool) (cs:List Ch):List Ch:=(cs.filter P).foldl (fun l c=>insC c l) []
theorem aJ9 {x y:List Nat}:0<cmpB x y↔cmpB y x<0:=by rw [aDc x y];omega
theorem aCj {c x:Ch}:∀ {l:List Ch},SrC l->(x∈insC c l↔x=c\/(x∈l/\x.key≠c.key))
 | [],_=>by simp [insC]
 | d::l,h=>by
  have hd:∀ y∈l,cmpB d.key y.key<0:=(List.pairwise_cons.1 h).1
  have hl:SrC l:=(List.pairwise_cons.1 h).2
  have lt_ne:∀ {a b:List Nat},cmpB a b<0->b≠a:=fun q e=>by rw [e,aAr] at q;omega
  unfold insC
  split
  ·rename_i q
   constructor
   ·intro hx
    rcases List.mem_cons.1 hx with rfl | hx
    ·exact Or.inl rfl
    ·refine Or.inr ⟨hx,?_⟩
     rcases List.mem_cons.1 hx with rfl | hx
     ·exact lt_ne q
     ·exact lt_ne (aA2 q (hd x hx))
   ·rintro (rfl | ⟨hx,_⟩)
    ·exact List.mem_cons_self
    ·exact List.mem_cons_of_mem _ hx
  ·split
   ·rename_i _ q
    have e:=aDd q
    constructor
    ·intro hx
     rcases List.mem_cons.1 hx with rfl | hx
     ·exact Or.inl rfl
     ·exact Or.inr ⟨List.mem_cons_of_mem _ hx,by rw [e];exact lt_ne (hd x hx)⟩
    ·rintro (rfl | ⟨hx,hn⟩)
     ·exact List.mem_cons_self
     ·rcases List.mem_cons.1 hx with rfl | hx
      ·exact absurd e.symm hn
      ·exact List.mem_cons_of_mem _ hx
   ·rename_i q1 q2
    rw [List.mem_cons,aCj hl,List.mem_cons]
    constructor
    ·rintro (rfl | rfl | ⟨hx,hn⟩)
     ·exact Or.inr ⟨Or.inl rfl,fun e=>q2 (by rw [e,aAr])⟩
     ·exact Or.inl rfl
     ·exact Or.inr ⟨Or.inr hx,hn⟩
    ·rintro (rfl | ⟨rfl | hx,hn⟩)
     ·exact Or.inr (Or.inl rfl)
     ·exact Or.inl rfl
     ·exact Or.inr (Or.inr ⟨hx,hn⟩)
theorem SrC.ins {c:Ch}:∀ {l:List Ch},SrC l->SrC (insC c l)
 | [],_=>by simp [insC,SrC]
 | d::l,h=>by
  have hd:∀ y∈l,cmpB d.key y.key<0:=(List.pairwise_cons.1 h).1
  have hl:SrC l:=(List.pairwise_cons.1 h).2
  unfold insC
  split
  ·rename_i q
   refine List.pairwise_cons.2 ⟨fun y hy=>?_,h⟩
   rcases List.mem_cons.1 hy with rfl | hy
   ·exact q
   ·exact aA2 q (hd y hy)
  ·split
   ·rename_i _ q
    refine List.pairwise_cons.2 ⟨fun y hy=>?_,hl⟩
    rw [aDd q]
    exact hd y hy
   ·rename_i q1 q2
    refine List.pairwise_cons.2 ⟨fun y hy=>?_,hl.ins⟩
    rcases (aCj hl).1 hy with rfl | ⟨hy,_⟩
    ·exact aJ9.1 (by omega)
    ·exact hd y hy
theorem SrC.fold:∀ (cs:List Ch) {l:List Ch},SrC l->SrC (cs.foldl (fun l c=>insC c l) l)
 | [],_,h=>h
 | c::cs,l,h=>SrC.fold cs (h.ins (c:=c))
theorem aD5 (P:Ch->Bool) (cs:List Ch):SrC (lastL P cs):=SrC.fold _ (by simp [SrC])
theorem aBm {P:Ch->Bool} {cs:List Ch} {c:Ch} (h:P c=true):lastL P (cs++[c])=insC c (lastL P cs):=by
 unfold lastL;rw [List.filter_append,List.foldl_append,List.filter_cons_of_pos h];rfl
theorem aB0 {P:Ch->Bool} {cs:List Ch} {c:Ch} (h:P c=false):lastL P (cs++[c])=lastL P cs:=by
 unfold lastL;rw [List.filter_append,List.foldl_append,List.filter_cons_of_neg (by simp [h])];rfl
theorem last_nil (P:Ch->Bool):lastL P []=[]:=rfl
theorem ins_len (c:Ch):∀ l:List Ch,(insC c l).length<=l.length+1
 | []=>by simp [insC]
 | d::l=>by
  have:=ins_len c l
  unfold insC
  split
  ·simp
  ·split<;>simp<;>omega
theorem fold_len:∀ (cs l:List Ch),(cs.foldl (fun l c=>insC c l) l).length<=l.length+cs.length
 | [],l=>by simp
 | c::cs,l=>by
  have h1:=fold_len cs (insC c l)
  have h2:=ins_len c l
  simp only [List.foldl_cons,List.length_cons]
  omega
theorem last_len (P:Ch->Bool) (cs:List Ch):(lastL P cs).length<=cs.length:=by
 have:=fold_len (cs.filter P) [];have h2:=List.length_filter_le P cs;unfold lastL;simp only [List.length_nil] at this;omega
theorem SrC.inj {l:List Ch} (h:SrC l) {x y:Ch} (hx:x∈l) (hy:y∈l) (e:x.key=y.key):x=y:=by
 induction l with
 | nil=>simp at hx
 | cons d l ih =>
  have hd:∀ y∈l,cmpB d.key y.key<0:=(List.pairwise_cons.1 h).1;rcases List.mem_cons.1 hx with ex | hx2<;>rcases List.mem_cons.1 hy with ey | hy2
  ·rw [ex,ey]
  ·have:=hd y hy2;rw [<-ex,e,aAr] at this;omega
  ·have:=hd x hx2;rw [<-ey,e,aAr] at this;omega
  ·exact ih (List.pairwise_cons.1 h).2 hx2 hy2
theorem SrC.uniq:∀ {l m:List Ch},SrC l->SrC m->(∀ x,x∈l↔x∈m)->l=m
 | [],[],_,_,_=>rfl
 | [],b::m,_,_,h=>by have:=(h b).2 List.mem_cons_self;simp at this
 | a::l,[],_,_,h=>by have:=(h a).1 List.mem_cons_self;simp at this
 | a::l,b::m,ha,hb,h=>by
  have h1:=(List.pairwise_cons.1 ha).1
  have h2:=(List.pairwise_cons.1 hb).1
  have e:a=b:=by
   rcases List.mem_cons.1 ((h a).1 List.mem_cons_self) with e | q
   ·exact e
   ·rcases List.mem_cons.1 ((h b).2 List.mem_cons_self) with e | q2
    ·exact e.symm
    ·have x1:=h2 a q;have x2:=h1 b q2;have:=aA2 x1 x2;rw [aAr] at this;omega
  subst e;have e2:l=m:=by
   refine SrC.uniq (List.pairwise_cons.1 ha).2 (List.pairwise_cons.1 hb).2 fun x=>⟨fun q=>?_,fun q=>?_⟩
   ·rcases List.mem_cons.1 ((h x).1 (List.mem_cons_of_mem _ q)) with rfl | q2
    ·have:=h1 x q;rw [aAr] at this;omega
    ·exact q2
   ·rcases List.mem_cons.1 ((h x).2 (List.mem_cons_of_mem _ q)) with rfl | q2
    ·have:=h2 x q;rw [aAr] at this;omega
    ·exact q2
  rw [e2]
def inR (sp:Int) (lo hi:List Nat) (c:Ch):Bool:=decide (c.sp=sp) && decide (0<=cmpB c.key lo) && (decide (hi=[]) || decide (cmpB c.key hi<0))
def laidF:Nat->List Ch->List Ch->List Ch
 | _,F,[]=>F
 | most,F,c::l=>if F.length=most then F else laidF most (if c.gone then F else F++[c]) l
def rngC (cs:List Ch) (sp:Int) (lo hi:List Nat) (most:Nat):List Ch:=laidF most [] (lastL (inR sp lo hi) cs)
end Go.Proofs.YtdpdjpkmndnaaaaGreat
set_option linter.unusedVariables false
namespace Go.Proofs.YtdpdjpkmndnaaaaGreat
variable {sp:Int}
def inK (lo hi:List Nat) (k:List Nat):Bool:=decide (0<=cmpB k lo) && (decide (hi=[]) || decide (cmpB k hi<0))
def lv (c:Ch):Bool:=!c.gone
def liveC (cs:List Ch) (sp:Int):List Ch:=(lastL (inR sp [] []) cs).filter lv
theorem aFt (k:List Nat):0<=cmpB k []:=by
 cases k with
 | nil=>decide
 | cons a l=>simp [cmpB]
theorem inR_all (sp:Int) (c:Ch):inR sp [] [] c=decide (c.sp=sp):=by
 unfold inR;rw [decide_eq_true (aFt c.key)];simp
theorem inR_K (sp:Int) (lo hi:List Nat) (c:Ch):inR sp lo hi c=(inR sp [] [] c && inK lo hi c.key):=by
 rw [inR_all];unfold inR inK;rw [Bool.and_assoc]
theorem snocInd {α:Type} {P:List α->Prop} (h0:P []) (h1:∀ l x,P l->P (l++[x])) (l:List α):P l:=by
 have key:∀ n,∀ l:List α,l.length=n->P l:=by
  intro n
  induction n with
  | zero=>intro l hl;rw [List.eq_nil_of_length_eq_zero hl];exact h0
  | succ n ih =>
   intro l hl;have hne:l≠[]:=by intro e;rw [e] at hl;cases hl
   rw [<-List.dropLast_concat_getLast hne];exact h1 _ _ (ih _ (by rw [List.length_dropLast];omega))
 exact key _ l rfl
theorem last_sub {P P0:Ch->Bool} {Q:List Nat->Bool} (h:∀ c,P c=(P0 c && Q c.key)) (cs:List Ch):∀ x,x∈lastL P cs↔x∈lastL P0 cs/\Q x.key=true:=by
 refine snocInd (P:=fun cs=>∀ x,x∈lastL P cs↔x∈lastL P0 cs/\Q x.key=true) ?_ ?_ cs
 ·intro x;simp [last_nil]
 ·intro cs c ih x
  cases h0:P0 c with
  | false =>
   rw [aB0 h0,aB0 (by rw [h c,h0];rfl)];exact ih x
  | true =>
   rw [aBm h0,aCj (aD5 _ _)]
   cases hq:Q c.key with
   | true =>
    rw [aBm (by rw [h c,h0,hq];rfl),aCj (aD5 _ _),ih x];constructor
    ·rintro (rfl | ⟨⟨a,b⟩,d⟩)
     ·exact ⟨Or.inl rfl,hq⟩
     ·exact ⟨Or.inr ⟨a,d⟩,b⟩
    ·rintro ⟨rfl | ⟨a,d⟩,b⟩
     ·exact Or.inl rfl
     ·exact Or.inr ⟨⟨a,b⟩,d⟩
   | false =>
    rw [aB0 (by rw [h c,h0,hq];rfl),ih x];constructor
    ·rintro ⟨a,b⟩;refine ⟨Or.inr ⟨a,fun e=>?_⟩,b⟩;rw [e,hq] at b;cases b
    ·rintro ⟨rfl | ⟨a,_⟩,b⟩
     ·rw [hq] at b;cases b
     ·exact ⟨a,b⟩
theorem SrC.filter {l:List Ch} (h:SrC l) (q:Ch->Bool):SrC (l.filter q):=List.Pairwise.filter q h
theorem last_K (cs:List Ch) (sp:Int) (lo hi:List Nat):lastL (inR sp lo hi) cs=(lastL (inR sp [] []) cs).filter (fun c=>inK lo hi c.key):=by
 refine SrC.uniq (aD5 _ _) ((aD5 _ _).filter _) fun x=>?_
 rw [last_sub (inR_K sp lo hi) cs x,List.mem_filter]
theorem aJs (most:Nat):∀ (l F:List Ch),F.length<=most->laidF most F l=F++(l.filter lv).take (most-F.length)
 | [],F,h=>by simp [laidF]
 | c::l,F,h=>by
  unfold laidF
  by_cases h1:F.length=most
  ·rw [if_pos h1,h1,Nat.sub_self,List.take_zero,List.append_nil]
  ·rw [if_neg h1]
   cases hg:c.gone with
   | true =>
    rw [if_pos rfl,aJs most l F h,List.filter_cons_of_neg (by simp [lv,hg])]
   | false =>
    rw [if_neg (by simp),aJs most l (F++[c]) (by rw [List.length_append,List.length_singleton];omega),List.filter_cons_of_pos (by simp [lv,hg]),List.length_append,List.length_singleton]
    rw [show most-F.length=(most-(F.length+1))+1 by omega,List.take_succ_cons,List.append_assoc]
    rfl
theorem aF4 (cs:List Ch) (sp:Int) (lo hi:List Nat) (most:Nat):rngC cs sp lo hi most=((liveC cs sp).filter (fun c=>inK lo hi c.key)).take most:=by
 unfold rngC liveC;rw [aJs most _ [] (Nat.zero_le _),last_K,List.filter_filter,List.filter_filter,List.nil_append];simp only [List.length_nil,Nat.sub_zero]
 congr 2
 funext c
 exact Bool.and_comm _ _
theorem aI7 (cs:List Ch) (sp:Int):SrC (liveC cs sp):=(aD5 _ _).filter _
theorem live_nil (sp:Int):liveC [] sp=[]:=rfl
theorem aJr {cs:List Ch} {c:Ch} (h:c.sp≠sp):liveC (cs++[c]) sp=liveC cs sp:=by
 unfold liveC;rw [aB0 (by rw [inR_all];exact decide_eq_false h)]
theorem aJp {cs:List Ch} {c:Ch} (h:c.sp=sp) (x:Ch):x∈liveC (cs++[c]) sp↔(x=c/\c.gone=false)\/(x∈liveC cs sp/\x.key≠c.key):=by
 unfold liveC;rw [aBm (by rw [inR_all];exact decide_eq_true h),List.mem_filter,aCj (aD5 _ _),List.mem_filter];constructor
 ·rintro ⟨rfl | ⟨a,b⟩,d⟩
  ·exact Or.inl ⟨rfl,by simpa [lv] using d⟩
  ·exact Or.inr ⟨⟨a,d⟩,b⟩
 ·rintro (⟨rfl,b⟩ | ⟨⟨a,d⟩,b⟩)
  ·exact ⟨Or.inl rfl,by simp [lv,b]⟩
  ·exact ⟨Or.inr ⟨a,b⟩,d⟩
theorem live_many {cs:List Ch} (m:List Ch):(∀ c∈m,c.sp=sp)->m.Pairwise (fun x y=>x.key≠y.key)->∀ x,x∈liveC (cs++m) sp↔(x∈m/\x.gone=false)\/(x∈liveC cs sp/\∀ c∈m,x.key≠c.key):=by
 refine snocInd (P:=fun m=>(∀ c∈m,c.sp=sp)->m.Pairwise (fun x y=>x.key≠y.key)->∀ x,x∈liveC (cs++m) sp↔(x∈m/\x.gone=false)\/(x∈liveC cs sp/\∀ c∈m,x.key≠c.key)) ?_ ?_ m
 ·intro _ _ x;simp
 ·intro m c ih h u x;have h1:∀ d∈m,d.sp=sp:=fun d hd=>h d (List.mem_append_left _ hd)
  obtain ⟨u1,_,u3⟩:=List.pairwise_append.1 u;rw [<-List.append_assoc,aJp (h c (by simp)),ih h1 u1 x];simp only [List.mem_append,List.mem_singleton];constructor
  ·rintro (⟨rfl,b⟩ | ⟨⟨a,b⟩ | ⟨a,b⟩,d⟩)
   ·exact Or.inl ⟨Or.inr rfl,b⟩
   ·exact Or.inl ⟨Or.inl a,b⟩
   ·exact Or.inr ⟨a,fun e he=>he.elim (fun q=>b e q) (fun q=>by rw [q];exact d)⟩
  ·rintro (⟨a | rfl,b⟩ | ⟨a,b⟩)
   ·exact Or.inr ⟨Or.inl ⟨a,b⟩,u3 x a c (by simp)⟩
   ·exact Or.inl ⟨rfl,b⟩
   ·exact Or.inr ⟨Or.inr ⟨a,fun e he=>b e (Or.inl he)⟩,b c (Or.inr rfl)⟩
end Go.Proofs.YtdpdjpkmndnaaaaGreat
set_option maxRecDepth 100000
set_option maxHeartbeats 16000000
namespace Go.Proofs.YtdpdjpkmndnaaaaGreat
open Go.RowKit _root_.Go.Proofs.Tryz
theorem aDq {k:IntKind} {a b:Int} (h:a=b):Ending.returned (.int k a)=.returned (.int k b):=by rw [h]
theorem wraps_i64 (n:Int) (h0:0<=n) (h1:n<2 ^ 63):IntKind.i64.wrap n=n:=by
 rw [IntKind.wrap_i64];have:(2:Int) ^ 63=9223372036854775808:=by decide
 omega
theorem i64_and_nat (a b:Nat) (ha:a<9223372036854775808) (hb:b<9223372036854775808):bits .and .i64 (a:Int) (b:Int)=((a &&& b:Nat):Int) :=
 (bits_nat .i64 63 (by decide) wraps_i64 a b (by omega) (by omega)).1
theorem aF5 (a b:Nat) (ha:a<9223372036854775808) (hb:b<9223372036854775808):bits .or .i64 (a:Int) (b:Int)=((a ||| b:Nat):Int) :=
 (bits_nat .i64 63 (by decide) wraps_i64 a b (by omega) (by omega)).2
theorem u32_and1 (r:Nat) (h:r<4294967296):bits .and .u32 (r:Int) 1=((r % 2:Nat):Int):=by
 have:=u32_and_nat r 1 h (by decide);rw [nat_mask1] at this;exact this
theorem shift_any (r:Nat) (w:World) (h:r<4294967296) :
  Calls prog 248 #[.int .u32 r] w fun e w'=>e=.returned (.int .u32 (sh r:Nat))/\w'=w:=by
 have h1:=u32_and1 r h;by_cases he:r % 2=0
 ·have hb:(bits BinOp.and IntKind.u32 (↑r) 1 == 0)=true:=by rw [h1,he];rfl
  have hs:Hid (sh r=r / 2):=by unfold sh;rw [if_pos he];exact rfl
  clear h1 he;go_enter func248,ntmps248;go_wp2;go_ret;exact ⟨aDq (by rw [hs.out];simp),rfl⟩
 ·have hb:(bits BinOp.and IntKind.u32 (↑r) 1 == 0)=false:=by rw [h1];simp;omega
  have hx:Hid (bits BinOp.xor IntKind.u32 (↑r / 2) 2197175160=(sh r:Nat)):=by
   have:=u32_xor_nat (r / 2) 2197175160 (by omega) (by decide);unfold sh;rw [if_neg he,<-this];simp [Hid]
  clear h1 he;go_enter func248,ntmps248;go_wp2;go_ret;exact ⟨aDq hx.out,rfl⟩
end Go.Proofs.YtdpdjpkmndnaaaaGreat
