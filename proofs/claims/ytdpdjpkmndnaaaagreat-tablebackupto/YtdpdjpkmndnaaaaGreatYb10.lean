import Derived.Test.YtdpdjpkmndnaaaaGreatYb7
import Derived.Deep.QuietTactic
set_option maxRecDepth 100000
set_option maxHeartbeats 16000000
set_option linter.unusedVariables false
namespace Go.Proofs.YtdpdjpkmndnaaaaGreat
open Go.RowKit _root_.Go.Proofs.Tryz
variable {c i k n size:Nat} {xs ys:List Nat}
def ord (n:Nat):Nat->List Nat
 | 0=>[]
 | k+1=>(n / 256 ^ k % 256)::ord n k
theorem aD8 (n:Nat):∀ k,(ord n k).length=k
 | 0=>rfl
 | k+1=>by rw [ord,List.length_cons,aD8 n k]
theorem aG4 (n:Nat):∀ k,∀ c∈ord n k,c<256
 | 0=>by simp [ord]
 | k+1=>by
  intro c hc
  simp only [ord,kAv] at hc
  rcases hc with rfl | hc
  ·omega
  ·exact aG4 n k c hc
def bJs (n size i:Nat):List Nat:=zs (size-i)++ord n i
theorem bNc (h:i<=size):(bJs n size i).length=size:=by
 rw [bJs,lA,aI9,aD8];omega
theorem bJr (h:i<size):(cellsOf (bJs n size i)).set (size-1-i) (.int .u8 (n / 256 ^ i % 256:Nat))=cellsOf (bJs n size (i+1)):=by
 have e:size-i=(size-1-i)+1:=by omega
 have e2:size-(i+1)=size-1-i:=by omega
 rw [bJs,bJs,e,e2,aAz,aAz];have e3:zs ((size-1-i)+1)=zs (size-1-i)++[0]:=by simp [zs,List.replicate_succ']
 rw [e3,aAz,kAu];rw [List.set_append_right _ _ (by rw [aAl,aI9];exact nR _),aAl,aI9,Nat.sub_self];rfl
theorem aDm (n size:Nat) (w:World) (hn:n<18446744073709551616) (hs:size<=8) :
  Calls prog 231 #[.int .u64 (n:Int),.int .i64 (size:Int)] w fun e w'=>e=.returned (.slice (some ⟨w.heap.size,0,none⟩) size size)/\w'.ownsRow w.heap.size 5 1 (.slice (some ⟨w.heap.size,0,none⟩) size size) size (cellsOf (ord n size))/\Below w.heap.size w w':=by
 obtain ⟨i0,hi,hz0,hz1,hz2⟩:=info_parts aF6;have HM:=zH (aEo size);go_enter func231,ntmps231;go_wp2_with (refine wpList_make_full w rfl _ _ 97 rfl w.heap.size 5 i0 (.int .u8 0) 1 underlying97 hi hz0 hz1 .i64 .i64 (size:Int) (size:Int) size rfl rfl rfl rfl (by rw [hz2];omega) (by unfold maxLen;omega) (nR _) ?_;intro w1 ho1 hg1;rw [HM.o] at ho1;have HO1:=zH ho1;have HG1:=zH ((kBh w.heap.size w).grown hg1 (nR _) (fun k hk=>by cases hk));clear ho1 hg1);go_loopw [11] (fun i wr=>∃ k:Nat,k<=size/\i=.int .i64 k/\wr.heap[w.heap.size]?=some (.cells (cellsOf (bJs n size k)).toArray 5 (0,0))/\Below w.heap.size w wr) (fun i _=>size-(intOf i).toNat)
 case atStart=>exact ⟨0,by omega,rfl,by simpa [bJs,ord] using (aFu HO1.o).1,HG1.o⟩
 case round =>
  obtain ⟨k,hk,rfl,hR,hB⟩:=hrel;have HR:=zH hR;have HBW:=zH hB;by_cases hlt:k<size
  ·have i1:(0:Int)<=(size:Int)-1-(k:Int):=by omega
   have i2:(size:Int)-1-(k:Int)<(size:Int):=by omega
   have i3:(k:Int)<(size:Int):=by omega
   obtain ⟨v0,cc⟩:∃ v,wr.cell? ⟨w.heap.size,size-1-k,none⟩=some v:=by
    rw [aAd hR];exact ⟨_,by simpa using aBf (bJs n size k) (size-1-k) (by rw [bNc hk];omega)⟩
   have fz:=aAm (i:=size-1-k) hR;clear hR hB;have HN:=zH (bJr (n:=n) hlt);have HE:Hid ((n:Int) / 2 ^ (8*k) % 256=((n / 256 ^ k % 256:Nat):Int)):=by
    show _=_;have e:((2:Int) ^ (8*k))=((256 ^ k:Nat):Int):=by
     rw [show (256:Nat)=2 ^ 8 from rfl,<-Nat.pow_mul,Int.natCast_pow];rfl
    rw [e];rfl
   have HST:=zH (heap_setCell_same wr w.heap.size (size-1-k) _ _ (.int .u8 ((n / 256 ^ k % 256:Nat):Int)) HR.o);go_wp2;rw [HE.o];refine ⟨⟨k+1,by omega,by go_num,?_,HBW.o.setCell (Nat.le_refl _) _⟩,by simp [intOf];omega⟩;rw [HST.o,List.setIfInBounds_toArray,HN.o]
  ·obtain rfl:k=size:=by omega
   have i3:¬ (k:Int)<(k:Int):=by omega
   have HOS:Hid (bJs n k k=ord n k):=by show _=_;simp [bJs,zs]
   rw [HOS.o] at HR;have HOL:=zH (aD8 n k);clear hR hB hlt;go_wp2;go_ret;exact ⟨rfl,aHv HR.o (nR _) HOL.o (by unfold maxLen;omega),HBW.o⟩
def bA1 (bs:List Nat):Nat:=bs.foldl (fun a c=>a*256+c) 0
theorem bJt (bs:List Nat) (c:Nat):bA1 (bs++[c])=bA1 bs*256+c:=by simp [bA1]
theorem bCo {bs:List Nat} (h:k<bs.length):bA1 (bs.take (k+1))=bA1 (bs.take k)*256+bs.getD k 0:=by
 rw [kAs,gE h,kAa,gE h];exact bJt _ _
theorem aH8 {bs:List Nat} (h:∀ c∈bs,c<256):∀ k,k<=bs.length->bA1 (bs.take k)<256 ^ k
 | 0,_=>by simp [bA1]
 | k+1,hk=>by
  rw [bCo (by omega),Nat.pow_succ]
  have:=aH8 h k (by omega)
  have:=aE0 h k
  omega
theorem bQx {a:Nat} (hc:c<256):a*256 ||| c=a*256+c:=by
 have:=Nat.two_pow_add_eq_or_of_lt (i:=8) (b:=c) (by simpa using hc) a;rw [Nat.mul_comm] at this;simpa using this.symm
theorem u64_or_nat (a b:Nat) (ha:a<18446744073709551616) (hb:b<18446744073709551616):bits .or .u64 (a:Int) (b:Int)=((a ||| b:Nat):Int):=by
 show IntKind.u64.wrap ((BitVec.ofInt 64 a ||| BitVec.ofInt 64 b).toNat:Nat)=_;have h1:(BitVec.ofInt 64 (a:Int)).toNat=a:=by rw [BitVec.toNat_ofInt];omega
 have h2:(BitVec.ofInt 64 (b:Int)).toNat=b:=by rw [BitVec.toNat_ofInt];omega
 rw [BitVec.toNat_or,h1,h2];have h3:a ||| b<2 ^ 64:=Nat.or_lt_two_pow ha hb;rw [IntKind.wrap_u64];omega
theorem aB1 (a:Option Addr) (len cap:Nat) (xs:List Nat) (w:World) (h:BS w a len cap xs) (hl:len<=8) :
  Calls prog 214 #[.slice a len cap] w fun e w'=>e=.returned (.int .u64 (bA1 xs:Nat))/\w'=w:=by
 have hxl:=h.hlen;have HX:=zH h.hbyte;rcases Nat.eq_zero_or_pos len with h0 | h0
 ·have hx:xs=[]:=kAf (by omega);subst hx;clear h;subst h0;go_enter func214,ntmps214;go_wp2;go_loopw [8,3] (fun i r wr=>i=.int .i64 0/\r=.int .u64 0/\wr=w) (fun _ _ _=>0)
  case atStart=>exact ⟨rfl,rfl,rfl⟩
  case round =>
   obtain ⟨rfl,rfl,rfl⟩:=hrel;go_wp2;go_ret;exact ⟨rfl,rfl⟩
 ·obtain ⟨b,o,rfl,hbl,hc⟩:=h.place h0;have HC:=zH hc;have HL:=zH hxl;clear h hc hxl;go_enter func214,ntmps214;go_wp2;go_loopw [8,3] (fun i r wr=>∃ k:Nat,k<=len/\i=.int .i64 k/\r=.int .u64 (bA1 (xs.take k):Nat)/\wr=w) (fun i _ _=>len-(intOf i).toNat)
  case atStart=>exact ⟨0,by omega,rfl,rfl,rfl⟩
  case round =>
   obtain ⟨k,hk,rfl,rfl,rfl⟩:=hrel;by_cases hlt:k<len
   ·have hlt':(k:Int)<(len:Int):=by omega
    have k0:(0:Int)<=(k:Int):=by omega
    have cc:=HC.o k hlt;have hb:=aE0 HX.o k;have HN:=zH (bCo (bs:=xs) (k:=k) (by rw [HL.o];exact hlt));have hq:bA1 (xs.take k)<72057594037927936:=by
     have h1:=aH8 HX.o k (by rw [HL.o];omega);have h2:256 ^ k<=256 ^ 7:=kA9 (by omega) (by omega);omega
    generalize xs.getD k 0=c at *;generalize bA1 (xs.take k)=q at *;have hor:bits .or .u64 ((q:Int)*256) (c:Int)=((q*256+c:Nat):Int):=by
     have:=u64_or_nat (q*256) c (by omega) (by omega);rw [bQx hb] at this;exact this
    clear hlt;go_wp2;refine ⟨⟨k+1,by omega,by go_num,by rw [HN.o];rfl,trivial⟩,by simp [intOf];omega⟩
   ·obtain rfl:k=len:=by omega
    have i3:¬ (k:Int)<(k:Int):=by omega
    have HE:Hid (xs.take k=xs):=kAh (by rw [HL.o];exact nR _);rw [HE.o];go_wp2;go_ret;exact ⟨rfl,rfl⟩
theorem bQc (hx:∀ n∈xs,n<256) (hy:∀ n∈ys,n<256):str xs=str ys↔xs=ys:=by
 have key:∀ zs:List Nat,(∀ n∈zs,n<256)->(str zs).data.toList.map UInt8.toNat=zs:=by
  intro zs h;rw [str,strOfNums_data,List.map_map,List.map_map]
  conv=>rhs;rw [<-List.map_id zs]
  apply List.map_congr_left;intro n hn;have:=h n hn;simp only [Function.comp,Int.ofNat_eq_natCast,Int.toNat_natCast,UInt8.toNat_ofNat',id];omega
 constructor
 ·intro h;rw [<-key xs hx,<-key ys hy,h]
 ·intro h;rw [h]
theorem toList_inj {x y:ByteArray} (h:x.toList=y.toList):x=y:=by
 apply ByteArray.ext;apply Array.toList_inj.1;rw [<-ByteArray.toList_eq,<-ByteArray.toList_eq,h]
theorem aCp (a a':Option Addr) (len cap len' cap':Nat) (xs ys:List Nat) (w:World) (h:BS w a len cap xs) (h':BS w a' len' cap' ys) :
  Calls prog 98 #[.slice a len cap,.slice a' len' cap'] w fun e w'=>e=.returned (.bool (decide (xs=ys)))/\w'=w:=by
 have t1:=run_text h;have t2:=run_text h';have HE:=zH (bQc h.hbyte h'.hbyte);clear h h';generalize str xs=sx at *;generalize str ys=sy at *;go_enter func98,ntmps98;go_wp2;go_ret;refine ⟨?_,rfl⟩;have e:(sx.toList == sy.toList)=decide (xs=ys):=by
  by_cases hc:sx=sy
  ·rw [kAc (HE.o.1 hc),hc];exact beq_self_eq_true _
  ·rw [kAd (fun e=>hc (HE.o.2 e))];apply beq_eq_false_iff_ne.2;intro e;apply hc;exact toList_inj e
 rw [<-e];rfl
end Go.Proofs.YtdpdjpkmndnaaaaGreat
