import Derived.Test.YtdpdjpkmndnaaaaGreatProg
import Derived.WalkKit
import Derived.WalkSpells
import Derived.WalkLawsBesides
import Derived.Lib.BitFns
import Derived.Lib.Walk
import Derived.Test.YtdpdjpkmndnaaaaGreatYb0

set_option maxRecDepth 100000
set_option maxHeartbeats 16000000
namespace Go.Proofs.YtdpdjpkmndnaaaaGreat
def sh (r:Nat):Nat:=if r % 2=0 then r / 2 else (r / 2) ^^^ 2197175160
def shn:Nat->Nat->Nat
 | 0,r=>r
 | k+1,r=>shn k (sh r)
def bBs (r c:Nat):Nat:=shn 8 (r ^^^ c)
def crc (r:Nat) (bs:List Nat):Nat:=bs.foldl bBs r
theorem bMb (a b:Nat):(a ^^^ b) / 2=a / 2 ^^^ b / 2:=Nat.xor_div_two
theorem bMa (a b:Nat):(a ^^^ b) % 2=(a % 2+b % 2) % 2:=by
 have h:=Nat.xor_mod_two_eq_one (a:=a) (b:=b);omega
theorem bT9 {r:Nat} (h:r<4294967296):sh r<4294967296:=by
 unfold sh;split
 ·omega
 ·exact kA8 (n:=32) (by omega) (by decide)
theorem bSr (a b:Nat):sh (a ^^^ b)=sh a ^^^ sh b:=by
 have hm:=bMa a b;have hd:=bMb a b;unfold sh;rw [hd];by_cases ha:a % 2=0<;>by_cases hb:b % 2=0
 ·rw [kAg ha,kAg hb,kAg (by omega)]
 ·rw [kAg ha,kAb hb,kAb (by omega),Nat.xor_assoc]
 ·rw [kAb ha,kAg hb,kAb (by omega)];rw [Nat.xor_assoc,Nat.xor_assoc,Nat.xor_comm (b / 2)]
 ·rw [kAb ha,kAb hb,kAg (by omega)];rw [Nat.xor_assoc,Nat.xor_comm 2197175160,Nat.xor_assoc,Nat.xor_self,Nat.xor_zero]
theorem aJ2 (j k r:Nat):shn (j+k) r=shn k (shn j r):=by
 induction j generalizing r with
 | zero=>simp [shn]
 | succ j ih=>rw [Nat.add_right_comm];exact ih (sh r)
theorem bE8 (k r:Nat):shn (k+1) r=sh (shn k r):=by rw [aJ2];rfl
theorem bIr (k:Nat) {r:Nat} (h:r<4294967296):shn k r<4294967296:=by
 induction k generalizing r with
 | zero=>exact h
 | succ k ih=>exact ih (bT9 h)
theorem aJ1 (k a b:Nat):shn k (a ^^^ b)=shn k a ^^^ shn k b:=by
 induction k generalizing a b with
 | zero=>rfl
 | succ k ih=>show shn k (sh (a ^^^ b))=_;rw [bSr];exact ih _ _
theorem bSs (m:Nat):sh (2*m)=m:=by unfold sh;rw [kAg (by omega)];omega
theorem bDu (k m:Nat):shn k (2 ^ k*m)=m:=by
 induction k generalizing m with
 | zero=>simp [shn]
 | succ k ih =>
  show shn k (sh (2 ^ (k+1)*m))=m;rw [show 2 ^ (k+1)*m=2*(2 ^ k*m) by rw [Nat.pow_succ];simp [Nat.mul_comm,Nat.mul_left_comm],bSs];exact ih m
theorem bOu (r a b c d:Nat):bBs (bBs (bBs (bBs r a) b) c) d=shn 32 (r ^^^ (a ^^^ (256*b) ^^^ (65536*c) ^^^ (16777216*d))):=by
 unfold bBs;have hb:b=shn 8 (256*b):=(bDu 8 b).symm;have hc:c=shn 16 (65536*c):=(bDu 16 c).symm;have hd:d=shn 24 (16777216*d):=(bDu 24 d).symm;have e1:shn 8 (r ^^^ a) ^^^ b=shn 8 (r ^^^ a ^^^ 256*b):=by rw [aJ1 8 (r ^^^ a) (256*b),<-hb]
 rw [e1];have e2:shn 8 (shn 8 (r ^^^ a ^^^ 256*b)) ^^^ c=shn 16 (r ^^^ a ^^^ 256*b ^^^ 65536*c):=by
  rw [<-aJ2 8 8,aJ1 16 (r ^^^ a ^^^ 256*b) (65536*c),<-hc]
 rw [e2];have e3:shn 8 (shn 16 (r ^^^ a ^^^ 256*b ^^^ 65536*c)) ^^^ d=shn 24 (r ^^^ a ^^^ 256*b ^^^ 65536*c ^^^ 16777216*d):=by
  rw [<-aJ2 16 8,aJ1 24 (r ^^^ a ^^^ 256*b ^^^ 65536*c) (16777216*d),<-hd]
 rw [e3,<-aJ2 24 8];simp [Nat.xor_assoc]
theorem bMz {r c:Nat} (h:r<4294967296) (hc:c<256):bBs r c<4294967296 :=
 bIr 8 (kA8 (n:=32) h (by omega))
theorem bTx {r:Nat} (h:r<4294967296) (bs:List Nat) (hb:∀ c∈bs,c<256):crc r bs<4294967296:=by
 induction bs generalizing r with
 | nil=>exact h
 | cons c bs ih =>
  show crc (bBs r c) bs<_;exact ih (bMz h (hb c (by simp))) (fun x hx=>hb x (by simp [hx]))
theorem bGr {a b:Nat} (h:a &&& b=0):a ||| b=a ^^^ b:=by
 apply Nat.eq_of_testBit_eq;intro i;have hi:(a &&& b).testBit i=false:=by rw [h];simp
 simp only [Nat.testBit_and,Nat.testBit_or,Nat.testBit_xor] at *
 cases h1:a.testBit i<;>cases h2:b.testBit i<;>simp_all
theorem aJu (k a b:Nat) (h:a<2 ^ k):a ||| 2 ^ k*b=a ^^^ 2 ^ k*b:=by
 apply bGr;apply Nat.eq_of_testBit_eq;intro i;rw [Nat.testBit_and,Nat.testBit_two_pow_mul];simp only [Nat.zero_testBit];by_cases hk:i≥k
 ·have:a.testBit i=false:=Nat.testBit_lt_two_pow (kAi h (kA9 (by omega) hk));simp [this]
 ·simp [hk]
theorem bJ7 (k r:Nat):r=r % 2 ^ k ^^^ 2 ^ k*(r / 2 ^ k):=by
 rw [<-aJu k _ _ (Nat.mod_lt _ (Nat.two_pow_pos k)),Nat.or_comm,<-Nat.two_pow_add_eq_or_of_lt (Nat.mod_lt _ (Nat.two_pow_pos k))];exact (Nat.div_add_mod r (2 ^ k)).symm
end Go.Proofs.YtdpdjpkmndnaaaaGreat
namespace Go.Proofs.YtdpdjpkmndnaaaaGreat
variable {c k m p:Nat} {xs:List Nat}
def rdF:Nat->Nat->List Nat->Nat->Nat×Nat×Nat
 | 0,_,_,_=>(0,0,11)
 | _+1,_,[],_=>(0,0,10)
 | k+1,i,c::r,n=>if i=0/\c=128 then (0,0,11) else if c<128 then (n*128+c % 128,i+1,0) else rdF k (i+1) r (n*128+c % 128)
def rdN (xs:List Nat) (p:Nat):Nat×Nat×Nat:=rdF 9 0 (xs.drop p) 0
def bAs (xs:List Nat) (p:Nat):Nat:=if (rdN xs p).2.2=0 then p+(rdN xs p).2.1 else 0
theorem aEm (k i c n:Nat) (r:List Nat):rdF (k+1) i (c::r) n=if i=0/\c=128 then (0,0,11) else if c<128 then (n*128+c % 128,i+1,0) else rdF k (i+1) r (n*128+c % 128):=rfl
theorem aIv (xs:List Nat) (p:Nat) (h:p<xs.length):xs.drop p=xs.getD p 0::xs.drop (p+1):=by
 rw [kAy h,kAa,List.getElem?_eq_getElem h];rfl
theorem bLi (xs:List Nat) (p:Nat) (h:xs.length<=p):xs.drop p=[]:=List.drop_of_length_le h
theorem bQo (h:rdN xs p=rdF (9-9) 9 (xs.drop (p+9)) m):(rdN xs p).1=0/\bAs xs p=0/\(rdN xs p).2.2=11:=by
 have e:rdN xs p=(0,0,11):=by rw [h];rfl
 unfold bAs;rw [e];simp
theorem bM6 (hk:k<9) (he:p+k=xs.length) (h:rdN xs p=rdF (9-k) k (xs.drop (p+k)) m):(rdN xs p).1=0/\bAs xs p=0/\(rdN xs p).2.2=10:=by
 have e:rdN xs p=(0,0,10):=by rw [h,bLi xs _ (by omega),show 9-k=(8-k)+1 by omega];rfl
 unfold bAs;rw [e];simp
theorem bQp (hp:p<xs.length) (hc:xs.getD p 0=128) (h:rdN xs p=rdF (9-0) 0 (xs.drop (p+0)) m):(rdN xs p).1=0/\bAs xs p=0/\(rdN xs p).2.2=11:=by
 have e:rdN xs p=(0,0,11):=by rw [h,Nat.add_zero,aIv xs _ hp,hc];rfl
 unfold bAs;rw [e];simp
theorem bI8 (hk:k<9) (hp:p+k<xs.length) (hc:xs.getD (p+k) 0=c) (h7:c<128) (h:rdN xs p=rdF (9-k) k (xs.drop (p+k)) m) :
  (rdN xs p).1=m*128+c % 128/\bAs xs p=p+k+1/\(rdN xs p).2.2=0:=by
 have e:rdN xs p=(m*128+c % 128,k+1,0):=by
  rw [h,aIv xs _ hp,hc,show 9-k=(8-k)+1 by omega,aEm,kAb (by omega),kAg h7]
 unfold bAs;rw [e];simp;omega
theorem bI6 (hk:k<9) (hp:p+k<xs.length) (hc:xs.getD (p+k) 0=c) (h7:¬ c<128) (h0:¬ (k=0/\c=128)) (h:rdN xs p=rdF (9-k) k (xs.drop (p+k)) m) :
  rdN xs p=rdF (9-(k+1)) (k+1) (xs.drop (p+(k+1))) (m*128+c % 128):=by
 rw [h,aIv xs _ hp,hc,show 9-k=(8-k)+1 by omega,aEm,kAb h0,kAb h7,show 9-(k+1)=8-k by omega,Nat.add_assoc]
theorem bFb (hm:m<128 ^ k):(m*128+c % 128)<128 ^ (k+1):=by
 rw [Nat.pow_succ];omega
theorem bVw (hk:k<=9):128 ^ k<=9223372036854775808:=by
 have:=kA9 (n:=128) (by omega) hk;simpa using this
end Go.Proofs.YtdpdjpkmndnaaaaGreat
namespace Go.Proofs.YtdpdjpkmndnaaaaGreat
abbrev It:=List Nat×List Nat
def bAb:List Nat->List Nat->Int
 | [],[]=>0
 | [],_::_=>-1
 | _::_,[]=>1
 | a::x,b::y=>if a<b then -1 else if b<a then 1 else bAb x y
theorem aAu:∀ x,bAb x x=0
 | []=>rfl
 | a::x=>by simp [bAb,aAu x]
theorem aDr:∀ {x y},bAb x y=0->x=y
 | [],[],_=>rfl
 | [],_::_,h=>by simp [bAb] at h
 | _::_,[],h=>by simp [bAb] at h
 | a::x,b::y,h=>by
  unfold bAb at h
  split at h
  ·cases h
  ·split at h
   ·cases h
   ·have:a=b:=by omega
    rw [this,aDr h]
theorem aCx:∀ x y,bAb y x=- bAb x y
 | [],[]=>rfl
 | [],_::_=>rfl
 | _::_,[]=>rfl
 | a::x,b::y=>by
  unfold bAb
  by_cases h1:a<b
  ·have:¬ b<a:=by omega
   simp [h1,this]
  ·by_cases h2:b<a
   ·simp [h1,h2]
   ·simp [h1,h2,aCx x y]
theorem aK2:∀ x y,bAb x y=-1\/bAb x y=0\/bAb x y=1
 | [],[]=>Or.inr (Or.inl rfl)
 | [],_::_=>Or.inl rfl
 | _::_,[]=>Or.inr (Or.inr rfl)
 | a::x,b::y=>by
  unfold bAb
  split
  ·exact Or.inl rfl
  ·split
   ·exact Or.inr (Or.inr rfl)
   ·exact aK2 x y
theorem aA6:∀ {x y z},bAb x y<0->bAb y z<0->bAb x z<0
 | [],[],_,h,_=>by simp [bAb] at h
 | [],_::_,[],_,h=>by simp [bAb] at h
 | [],_::_,_::_,_,_=>by simp [bAb]
 | _::_,[],_,h,_=>by simp [bAb] at h
 | _::_,_::_,[],_,h=>by simp [bAb] at h
 | a::x,b::y,c::z,h1,h2=>by
  unfold bAb at h1 h2 ⊢
  by_cases p1:a<b
  ·by_cases p2:b<c
   ·rw [kAg (by omega)];decide
   ·rw [kAb p2] at h2
    by_cases p3:c<b
    ·rw [kAg p3] at h2;omega
    ·rw [kAg (by omega)];decide
  ·rw [kAb p1] at h1
   by_cases p2:b<a
   ·rw [kAg p2] at h1;omega
   ·rw [kAb p2] at h1
    have e:a=b:=by omega
    subst e;by_cases p3:a<c
    ·rw [kAg p3];decide
    ·rw [kAb p3] at h2 ⊢;by_cases p4:c<a
     ·rw [kAg p4] at h2;omega
     ·rw [kAb p4] at h2 ⊢;exact aA6 h1 h2
theorem cmpB_nil {x:List Nat}:0<bAb x []↔x≠[]:=by cases x<;>simp [bAb]
def bAn (l:List It) (k:List Nat):Nat:=l.countP fun x=>decide (bAb x.1 k<0)
def bEj (l:List It) (k:List Nat):Bool:=(l.map (·.1)).contains k
def Srt (l:List It):Prop:=l.Pairwise fun x y=>bAb x.1 y.1<0
theorem aKv (l:List It) (k:List Nat):bAn l k<=l.length:=List.countP_le_length
def Lo (l:List It) (k:List Nat):Prop:=∀ x∈l,bAb x.1 k<0
theorem bRt {l:List It} {k:List Nat} (h:Lo l k):bAn l k=l.length:=by
 unfold bAn;rw [List.countP_eq_length];intro x hx;exact kAc (h x hx)
theorem bOe (a b:List It) (k:List Nat):bAn (a++b) k=bAn a k+bAn b k:=by simp [bAn]
theorem Srt.part {l:List It} (h:Srt l) (k:List Nat):Lo (l.take (bAn l k)) k/\∀ x∈l.drop (bAn l k),0<=bAb x.1 k:=by
 induction l with
 | nil=>exact ⟨fun x hx=>by simp at hx,fun x hx=>by simp at hx⟩
 | cons a l ih =>
  have h1:∀ y∈l,bAb a.1 y.1<0:=(kAw.1 h).1;have ih:=ih (kAw.1 h).2;by_cases q:bAb a.1 k<0
  ·have e:bAn (a::l) k=bAn l k+1:=by simp [bAn,q]
   rw [e];refine ⟨fun x hx=>?_,fun x hx=>ih.2 x (by simpa using hx)⟩;rcases kAv.1 (by simpa using hx) with rfl | hx
   ·exact q
   ·exact ih.1 x hx
  ·have hz:∀ y∈l,0<=bAb y.1 k:=by
    intro y hy;have:=h1 y hy;apply Classical.byContradiction;intro hn;exact q (aA6 this (by omega))
   have e:bAn (a::l) k=0:=by
    unfold bAn;rw [List.countP_eq_zero];intro x hx;rcases kAv.1 hx with rfl | hx
    ·simp;omega
    ·have:=hz x hx;simp;omega
   rw [e];refine ⟨fun x hx=>by simp at hx,fun x hx=>?_⟩;rcases kAv.1 (by simpa using hx) with rfl | hx
   ·omega
   ·exact hz x hx
theorem Srt.app {a b:List It} (h:Srt (a++b)):Srt a/\Srt b/\∀ x∈a,∀ y∈b,bAb x.1 y.1<0:=List.pairwise_append.1 h
theorem Srt.has {l:List It} (h:Srt l) (k:List Nat):bEj l k=true↔∃ x,l[bAn l k]?=some x/\x.1=k:=by
 constructor
 ·intro hh;simp only [bEj,List.contains_eq_mem,List.mem_map,decide_eq_true_eq] at hh;obtain ⟨x,hx,rfl⟩:=hh;obtain ⟨a,b,rfl⟩:=List.append_of_mem hx;obtain ⟨h1,h2,h3⟩:=h.app;have e1:bAn a x.1=a.length:=bRt fun y hy=>h3 y hy x (by simp)
  have e2:bAn (x::b) x.1=0:=by
   unfold bAn;rw [List.countP_eq_zero];intro y hy;rcases kAv.1 hy with rfl | hy
   ·simp [aAu]
   ·have:=(kAw.1 h2).1 y hy;rw [aCx] at this;simp;omega
  rw [bOe,e1,e2];exact ⟨x,by simp,rfl⟩
 ·rintro ⟨x,hx,rfl⟩;simp only [bEj,List.contains_eq_mem,List.mem_map,decide_eq_true_eq];exact ⟨x,List.mem_of_getElem? hx,rfl⟩
end Go.Proofs.YtdpdjpkmndnaaaaGreat
namespace Go.Proofs.YtdpdjpkmndnaaaaGreat
def BT:Nat->Type
 | 0=>Nat×List It
 | h+1=>Nat×List It×List (BT h)
def ED:Nat->Type
 | 0=>BT 0 ⊕ List It
 | h+1=>BT (h+1) ⊕ (List It×List (ED h))
def BT.id:{h:Nat}->BT h->Nat
 | 0,t=>t.1
 | _+1,t=>t.1
def BT.it:{h:Nat}->BT h->List It
 | 0,t=>t.2
 | _+1,t=>t.2.1
def old:{h:Nat}->BT h->ED h
 | 0,t=>.inl t
 | _+1,t=>.inl t
def bAl:List It->List (List It)->List It
 | l,[]=>l
 | [],c::_=>c
 | x::l,c::cs=>c++x::bAl l cs
def flB:(h:Nat)->BT h->List It
 | 0,t=>t.2
 | h+1,t=>bAl t.2.1 (t.2.2.map (flB h))
def ShB:(h:Nat)->BT h->Prop
 | 0,t=>t.2.length<=4
 | h+1,t=>t.2.1.length<=4/\t.2.2.length=t.2.1.length+1/\∀ k∈t.2.2,ShB h k/\2<=(BT.it k).length
theorem bH5 (l:List It):bAl l []=l:=by cases l<;>rfl
def wvL:List It->List (List It)->List It
 | x::l,c::cs=>c++x::wvL l cs
 | _,_=>[]
def wvR:List It->List (List It)->List It
 | x::l,c::cs=>x::(c++wvR l cs)
 | _,_=>[]
theorem aDh:∀ (l:List It) (cs:List (List It)) (i:Nat) (c:List It),cs.length=l.length+1->cs[i]?=some c->bAl l cs=wvL (l.take i) (cs.take i)++(c++wvR (l.drop i) (cs.drop (i+1)))
 | [],[c'],0,c,_,h=>by
  simp only [List.getElem?_cons_zero,Option.some.injEq] at h
  subst h
  simp [bAl,wvL,wvR]
 | [],[c'],i+1,c,_,h=>by simp at h
 | x::l,c'::cs,0,c,hl,h=>by
  simp only [List.getElem?_cons_zero,Option.some.injEq] at h
  subst h
  simp only [bAl,List.take_zero,wvL,List.drop_zero,List.nil_append,List.drop_succ_cons]
  congr 1
  have:∀ (l:List It) (cs:List (List It)) (x:It),cs.length=l.length+1->x::bAl l cs=wvR (x::l) cs:=by
   intro l
   induction l with
   | nil =>
    intro cs x h
    match cs,h with
    | [c],_=>simp [bAl,wvR]
   | cons y l ih =>
    intro cs x h
    match cs,h with
    | c::cs,h =>
     simp only [bAl,wvR];rw [ih cs y (by simpa using h)]
  exact this l cs x (by simpa using hl)
 | x::l,c'::cs,i+1,c,hl,h=>by
  have ih:=aDh l cs i c (by simpa using hl) (by simpa using h);simp only [bAl,List.take_succ_cons,wvL,List.drop_succ_cons];rw [ih];simp
end Go.Proofs.YtdpdjpkmndnaaaaGreat
namespace Go.Proofs.YtdpdjpkmndnaaaaGreat
theorem aFh {α:Type} {l:List α} {i:Nat} {x:α} (h:l[i]?=some x):l=l.take i++x::l.drop (i+1):=by
 rw [<-(kAx.1 h).2,List.getElem_cons_drop,List.take_append_drop]
end Go.Proofs.YtdpdjpkmndnaaaaGreat
set_option linter.unusedVariables false
namespace Go.Proofs.YtdpdjpkmndnaaaaGreat
structure Ch where
 sp:Int
 key:List Nat
 val:List Nat
 gone:Bool
 deriving DecidableEq
def SrC (l:List Ch):Prop:=l.Pairwise fun x y=>bAb x.key y.key<0
def bBy (c:Ch):List Ch->List Ch
 | []=>[c]
 | d::l=>if bAb c.key d.key<0 then c::d::l else if bAb c.key d.key=0 then c::l else d::bBy c l
def bAr (P:Ch->Bool) (cs:List Ch):List Ch:=(cs.filter P).foldl (fun l c=>bBy c l) []
theorem aK1 {x y:List Nat}:0<bAb x y↔bAb y x<0:=by rw [aCx x y];omega
theorem aCu {c x:Ch}:∀ {l:List Ch},SrC l->(x∈bBy c l↔x=c\/(x∈l/\x.key≠c.key))
 | [],_=>by simp [bBy]
 | d::l,h=>by
  have hd:∀ y∈l,bAb d.key y.key<0:=(kAw.1 h).1
  have hl:SrC l:=(kAw.1 h).2
  have lt_ne:∀ {a b:List Nat},bAb a b<0->b≠a:=fun q e=>by rw [e,aAu] at q;omega
  unfold bBy
  split
  ·rename_i q
   constructor
   ·intro hx
    rcases kAv.1 hx with rfl | hx
    ·exact Or.inl rfl
    ·refine Or.inr ⟨hx,?_⟩
     rcases kAv.1 hx with rfl | hx
     ·exact lt_ne q
     ·exact lt_ne (aA6 q (hd x hx))
   ·rintro (rfl | ⟨hx,_⟩)
    ·exact kAn
    ·exact kAl _ hx
  ·split
   ·rename_i _ q
    have e:=aDr q
    constructor
    ·intro hx
     rcases kAv.1 hx with rfl | hx
     ·exact Or.inl rfl
     ·exact Or.inr ⟨kAl _ hx,by rw [e];exact lt_ne (hd x hx)⟩
    ·rintro (rfl | ⟨hx,hn⟩)
     ·exact kAn
     ·rcases kAv.1 hx with rfl | hx
      ·exact absurd e.symm hn
      ·exact kAl _ hx
   ·rename_i q1 q2
    rw [kAv,aCu hl,kAv]
    constructor
    ·rintro (rfl | rfl | ⟨hx,hn⟩)
     ·exact Or.inr ⟨Or.inl rfl,fun e=>q2 (by rw [e,aAu])⟩
     ·exact Or.inl rfl
     ·exact Or.inr ⟨Or.inr hx,hn⟩
    ·rintro (rfl | ⟨rfl | hx,hn⟩)
     ·exact Or.inr (Or.inl rfl)
     ·exact Or.inl rfl
     ·exact Or.inr (Or.inr ⟨hx,hn⟩)
theorem SrC.ins {c:Ch}:∀ {l:List Ch},SrC l->SrC (bBy c l)
 | [],_=>by simp [bBy,SrC]
 | d::l,h=>by
  have hd:∀ y∈l,bAb d.key y.key<0:=(kAw.1 h).1
  have hl:SrC l:=(kAw.1 h).2
  unfold bBy
  split
  ·rename_i q
   refine kAw.2 ⟨fun y hy=>?_,h⟩
   rcases kAv.1 hy with rfl | hy
   ·exact q
   ·exact aA6 q (hd y hy)
  ·split
   ·rename_i _ q
    refine kAw.2 ⟨fun y hy=>?_,hl⟩
    rw [aDr q]
    exact hd y hy
   ·rename_i q1 q2
    refine kAw.2 ⟨fun y hy=>?_,hl.ins⟩
    rcases (aCu hl).1 hy with rfl | ⟨hy,_⟩
    ·exact aK1.1 (by omega)
    ·exact hd y hy
theorem SrC.fold:∀ (cs:List Ch) {l:List Ch},SrC l->SrC (cs.foldl (fun l c=>bBy c l) l)
 | [],_,h=>h
 | c::cs,l,h=>SrC.fold cs (h.ins (c:=c))
theorem aEl (P:Ch->Bool) (cs:List Ch):SrC (bAr P cs):=SrC.fold _ (by simp [SrC])
theorem aBu {P:Ch->Bool} {cs:List Ch} {c:Ch} (h:P c=true):bAr P (cs++[c])=bBy c (bAr P cs):=by
 unfold bAr;rw [List.filter_append,List.foldl_append,List.filter_cons_of_pos h];rfl
theorem aB7 {P:Ch->Bool} {cs:List Ch} {c:Ch} (h:P c=false):bAr P (cs++[c])=bAr P cs:=by
 unfold bAr;rw [List.filter_append,List.foldl_append,List.filter_cons_of_neg (by simp [h])];rfl
theorem bNu (P:Ch->Bool):bAr P []=[]:=rfl
theorem bKp (c:Ch):∀ l:List Ch,(bBy c l).length<=l.length+1
 | []=>by simp [bBy]
 | d::l=>by
  have:=bKp c l
  unfold bBy
  split
  ·simp
  ·split<;>simp<;>omega
theorem bF8:∀ (cs l:List Ch),(cs.foldl (fun l c=>bBy c l) l).length<=l.length+cs.length
 | [],l=>by simp
 | c::cs,l=>by
  have h1:=bF8 cs (bBy c l)
  have h2:=bKp c l
  simp only [List.foldl_cons,List.length_cons]
  omega
theorem bNv (P:Ch->Bool) (cs:List Ch):(bAr P cs).length<=cs.length:=by
 have:=bF8 (cs.filter P) [];have h2:=List.length_filter_le P cs;unfold bAr;simp only [List.length_nil] at this;omega
theorem SrC.inj {l:List Ch} (h:SrC l) {x y:Ch} (hx:x∈l) (hy:y∈l) (e:x.key=y.key):x=y:=by
 induction l with
 | nil=>simp at hx
 | cons d l ih =>
  have hd:∀ y∈l,bAb d.key y.key<0:=(kAw.1 h).1;rcases kAv.1 hx with ex | hx2<;>rcases kAv.1 hy with ey | hy2
  ·rw [ex,ey]
  ·have:=hd y hy2;rw [<-ex,e,aAu] at this;omega
  ·have:=hd x hx2;rw [<-ey,e,aAu] at this;omega
  ·exact ih (kAw.1 h).2 hx2 hy2
theorem SrC.uniq:∀ {l m:List Ch},SrC l->SrC m->(∀ x,x∈l↔x∈m)->l=m
 | [],[],_,_,_=>rfl
 | [],b::m,_,_,h=>by have:=(h b).2 kAn;simp at this
 | a::l,[],_,_,h=>by have:=(h a).1 kAn;simp at this
 | a::l,b::m,ha,hb,h=>by
  have h1:=(kAw.1 ha).1
  have h2:=(kAw.1 hb).1
  have e:a=b:=by
   rcases kAv.1 ((h a).1 kAn) with e | q
   ·exact e
   ·rcases kAv.1 ((h b).2 kAn) with e | q2
    ·exact e.symm
    ·have x1:=h2 a q;have x2:=h1 b q2;have:=aA6 x1 x2;rw [aAu] at this;omega
  subst e;have e2:l=m:=by
   refine SrC.uniq (kAw.1 ha).2 (kAw.1 hb).2 fun x=>⟨fun q=>?_,fun q=>?_⟩
   ·rcases kAv.1 ((h x).1 (kAl _ q)) with rfl | q2
    ·have:=h1 x q;rw [aAu] at this;omega
    ·exact q2
   ·rcases kAv.1 ((h x).2 (kAl _ q)) with rfl | q2
    ·have:=h2 x q;rw [aAu] at this;omega
    ·exact q2
  rw [e2]
def inR (sp:Int) (lo hi:List Nat) (c:Ch):Bool:=decide (c.sp=sp) && decide (0<=bAb c.key lo) && (decide (hi=[]) || decide (bAb c.key hi<0))
def bA9:Nat->List Ch->List Ch->List Ch
 | _,F,[]=>F
 | most,F,c::l=>if F.length=most then F else bA9 most (if c.gone then F else F++[c]) l
def bBc (cs:List Ch) (sp:Int) (lo hi:List Nat) (most:Nat):List Ch:=bA9 most [] (bAr (inR sp lo hi) cs)
end Go.Proofs.YtdpdjpkmndnaaaaGreat
set_option linter.unusedVariables false
namespace Go.Proofs.YtdpdjpkmndnaaaaGreat
variable {sp:Int}
def inK (lo hi:List Nat) (k:List Nat):Bool:=decide (0<=bAb k lo) && (decide (hi=[]) || decide (bAb k hi<0))
def lv (c:Ch):Bool:=!c.gone
def bAj (cs:List Ch) (sp:Int):List Ch:=(bAr (inR sp [] []) cs).filter lv
theorem aGc (k:List Nat):0<=bAb k []:=by
 cases k with
 | nil=>decide
 | cons a l=>simp [bAb]
theorem bEg (sp:Int) (c:Ch):inR sp [] [] c=decide (c.sp=sp):=by
 unfold inR;rw [kAc (aGc c.key)];simp
theorem bU5 (sp:Int) (lo hi:List Nat) (c:Ch):inR sp lo hi c=(inR sp [] [] c && inK lo hi c.key):=by
 rw [bEg];unfold inR inK;rw [Bool.and_assoc]
theorem bDq {α:Type} {P:List α->Prop} (h0:P []) (h1:∀ l x,P l->P (l++[x])) (l:List α):P l:=by
 have key:∀ n,∀ l:List α,l.length=n->P l:=by
  intro n
  induction n with
  | zero=>intro l hl;rw [kAf hl];exact h0
  | succ n ih =>
   intro l hl;have hne:l≠[]:=by intro e;rw [e] at hl;cases hl
   rw [<-List.dropLast_concat_getLast hne];exact h1 _ _ (ih _ (by rw [List.length_dropLast];omega))
 exact key _ l rfl
theorem bNt {P P0:Ch->Bool} {Q:List Nat->Bool} (h:∀ c,P c=(P0 c && Q c.key)) (cs:List Ch):∀ x,x∈bAr P cs↔x∈bAr P0 cs/\Q x.key=true:=by
 refine bDq (P:=fun cs=>∀ x,x∈bAr P cs↔x∈bAr P0 cs/\Q x.key=true) ?_ ?_ cs
 ·intro x;simp [bNu]
 ·intro cs c ih x
  cases h0:P0 c with
  | false =>
   rw [aB7 h0,aB7 (by rw [h c,h0];rfl)];exact ih x
  | true =>
   rw [aBu h0,aCu (aEl _ _)]
   cases hq:Q c.key with
   | true =>
    rw [aBu (by rw [h c,h0,hq];rfl),aCu (aEl _ _),ih x];constructor
    ·rintro (rfl | ⟨⟨a,b⟩,d⟩)
     ·exact ⟨Or.inl rfl,hq⟩
     ·exact ⟨Or.inr ⟨a,d⟩,b⟩
    ·rintro ⟨rfl | ⟨a,d⟩,b⟩
     ·exact Or.inl rfl
     ·exact Or.inr ⟨⟨a,b⟩,d⟩
   | false =>
    rw [aB7 (by rw [h c,h0,hq];rfl),ih x];constructor
    ·rintro ⟨a,b⟩;refine ⟨Or.inr ⟨a,fun e=>?_⟩,b⟩;rw [e,hq] at b;cases b
    ·rintro ⟨rfl | ⟨a,_⟩,b⟩
     ·rw [hq] at b;cases b
     ·exact ⟨a,b⟩
theorem SrC.filter {l:List Ch} (h:SrC l) (q:Ch->Bool):SrC (l.filter q):=List.Pairwise.filter q h
theorem bTc (cs:List Ch) (sp:Int) (lo hi:List Nat):bAr (inR sp lo hi) cs=(bAr (inR sp [] []) cs).filter (fun c=>inK lo hi c.key):=by
 refine SrC.uniq (aEl _ _) ((aEl _ _).filter _) fun x=>?_;rw [bNt (bU5 sp lo hi) cs x,List.mem_filter]
theorem aKk (most:Nat):∀ (l F:List Ch),F.length<=most->bA9 most F l=F++(l.filter lv).take (most-F.length)
 | [],F,h=>by simp [bA9]
 | c::l,F,h=>by
  unfold bA9
  by_cases h1:F.length=most
  ·rw [kAg h1,h1,Nat.sub_self,List.take_zero,List.append_nil]
  ·rw [kAb h1]
   cases hg:c.gone with
   | true =>
    rw [kAg rfl,aKk most l F h,List.filter_cons_of_neg (by simp [lv,hg])]
   | false =>
    rw [kAb (by simp),aKk most l (F++[c]) (by rw [List.length_append,List.length_singleton];omega),List.filter_cons_of_pos (by simp [lv,hg]),List.length_append,List.length_singleton]
    rw [show most-F.length=(most-(F.length+1))+1 by omega,List.take_succ_cons,kAu]
    rfl
theorem aE6 (cs:List Ch) (sp:Int) (lo hi:List Nat) (most:Nat):bBc cs sp lo hi most=((bAj cs sp).filter (fun c=>inK lo hi c.key)).take most:=by
 unfold bBc bAj;rw [aKk most _ [] (kAm _),bTc,List.filter_filter,List.filter_filter,List.nil_append];simp only [List.length_nil,Nat.sub_zero]
 congr 2
 funext c
 exact Bool.and_comm _ _
theorem aJz (cs:List Ch) (sp:Int):SrC (bAj cs sp):=(aEl _ _).filter _
theorem bFm (sp:Int):bAj [] sp=[]:=rfl
theorem aKj {cs:List Ch} {c:Ch} (h:c.sp≠sp):bAj (cs++[c]) sp=bAj cs sp:=by
 unfold bAj;rw [aB7 (by rw [bEg];exact kAd h)]
theorem aKh {cs:List Ch} {c:Ch} (h:c.sp=sp) (x:Ch):x∈bAj (cs++[c]) sp↔(x=c/\c.gone=false)\/(x∈bAj cs sp/\x.key≠c.key):=by
 unfold bAj;rw [aBu (by rw [bEg];exact kAc h),List.mem_filter,aCu (aEl _ _),List.mem_filter];constructor
 ·rintro ⟨rfl | ⟨a,b⟩,d⟩
  ·exact Or.inl ⟨rfl,by simpa [lv] using d⟩
  ·exact Or.inr ⟨⟨a,d⟩,b⟩
 ·rintro (⟨rfl,b⟩ | ⟨⟨a,d⟩,b⟩)
  ·exact ⟨Or.inl rfl,by simp [lv,b]⟩
  ·exact ⟨Or.inr ⟨a,b⟩,d⟩
theorem bCr {cs:List Ch} (m:List Ch):(∀ c∈m,c.sp=sp)->m.Pairwise (fun x y=>x.key≠y.key)->∀ x,x∈bAj (cs++m) sp↔(x∈m/\x.gone=false)\/(x∈bAj cs sp/\∀ c∈m,x.key≠c.key):=by
 refine bDq (P:=fun m=>(∀ c∈m,c.sp=sp)->m.Pairwise (fun x y=>x.key≠y.key)->∀ x,x∈bAj (cs++m) sp↔(x∈m/\x.gone=false)\/(x∈bAj cs sp/\∀ c∈m,x.key≠c.key)) ?_ ?_ m
 ·intro _ _ x;simp
 ·intro m c ih h u x;have h1:∀ d∈m,d.sp=sp:=fun d hd=>h d (List.mem_append_left _ hd)
  obtain ⟨u1,_,u3⟩:=List.pairwise_append.1 u;rw [<-kAu,aKh (h c (by simp)),ih h1 u1 x];simp only [kAz,kA5];constructor
  ·rintro (⟨rfl,b⟩ | ⟨⟨a,b⟩ | ⟨a,b⟩,d⟩)
   ·exact Or.inl ⟨Or.inr rfl,b⟩
   ·exact Or.inl ⟨Or.inl a,b⟩
   ·exact Or.inr ⟨a,fun e he=>he.elim (fun q=>b e q) (fun q=>by rw [q];exact d)⟩
  ·rintro (⟨a | rfl,b⟩ | ⟨a,b⟩)
   ·exact Or.inr ⟨Or.inl ⟨a,b⟩,u3 x a c (by simp)⟩
   ·exact Or.inl ⟨rfl,b⟩
   ·exact Or.inr ⟨Or.inr ⟨a,fun e he=>b e (Or.inl he)⟩,b c (Or.inr rfl)⟩
end Go.Proofs.YtdpdjpkmndnaaaaGreat
set_option maxRecDepth 100000
set_option maxHeartbeats 16000000
namespace Go.Proofs.YtdpdjpkmndnaaaaGreat
open Go.RowKit _root_.Go.Proofs.Tryz
theorem aD5 {k:IntKind} {a b:Int} (h:a=b):Ending.returned (.int k a)=.returned (.int k b):=by rw [h]
theorem bB1 (n:Int) (h0:0<=n) (h1:n<2 ^ 63):IntKind.i64.wrap n=n:=by
 rw [IntKind.wrap_i64];have:(2:Int) ^ 63=9223372036854775808:=by decide
 omega
theorem bEh (a b:Nat) (ha:a<9223372036854775808) (hb:b<9223372036854775808):bits .and .i64 (a:Int) (b:Int)=((a &&& b:Nat):Int) :=
 (bits_nat .i64 63 (by decide) bB1 a b (by omega) (by omega)).1
theorem aGo (a b:Nat) (ha:a<9223372036854775808) (hb:b<9223372036854775808):bits .or .i64 (a:Int) (b:Int)=((a ||| b:Nat):Int) :=
 (bits_nat .i64 63 (by decide) bB1 a b (by omega) (by omega)).2
theorem bMq (r:Nat) (h:r<4294967296):bits .and .u32 (r:Int) 1=((r % 2:Nat):Int):=by
 have:=u32_and_nat r 1 h (by decide);rw [nat_mask1] at this;exact this
theorem bB8 (r:Nat) (w:World) (h:r<4294967296) :
  Calls prog 248 #[.int .u32 r] w fun e w'=>e=.returned (.int .u32 (sh r:Nat))/\w'=w:=by
 have h1:=bMq r h;by_cases he:r % 2=0
 ·have hb:(bits BinOp.and IntKind.u32 (↑r) 1 == 0)=true:=by rw [h1,he];rfl
  have hs:Hid (sh r=r / 2):=by unfold sh;rw [kAg he];exact rfl
  clear h1 he;go_enter func248,ntmps248;go_wp2;go_ret;exact ⟨aD5 (by rw [hs.out];simp),rfl⟩
 ·have hb:(bits BinOp.and IntKind.u32 (↑r) 1 == 0)=false:=by rw [h1];simp;omega
  have hx:Hid (bits BinOp.xor IntKind.u32 (↑r / 2) 2197175160=(sh r:Nat)):=by
   have:=u32_xor_nat (r / 2) 2197175160 (by omega) (by decide);unfold sh;rw [kAb he,<-this];simp [Hid]
  clear h1 he;go_enter func248,ntmps248;go_wp2;go_ret;exact ⟨aD5 hx.out,rfl⟩
end Go.Proofs.YtdpdjpkmndnaaaaGreat
