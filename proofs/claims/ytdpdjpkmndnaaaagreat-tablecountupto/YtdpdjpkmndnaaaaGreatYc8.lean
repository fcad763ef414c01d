import Derived.Outline
import Derived.OpenShut
import Derived.Deep.DrawnRows
import Derived.BigRegion
import Derived.Handy
import Derived.Test.YtdpdjpkmndnaaaaGreatYc7
import Derived.Maps.Range
set_option maxRecDepth 100000
set_option maxHeartbeats 16000000
namespace Go.Proofs.YtdpdjpkmndnaaaaGreat
open Go.RowKit _root_.Go.Proofs.Tryz
theorem aAk {w w':World} {base:Nat} {e:TypeId} {size:Nat} {v:Value} {n:Nat} {xs:List Value} (h:w.ownsRow base e size v n xs) (hb:Below w.heap.size w w'):w'.ownsRow base e size v n xs:=by
 obtain ⟨h1,h2⟩:=h;refine ⟨h1,?_⟩;rcases h2 with h2 | ⟨g,cap,cur,hv,hg,hc,h3⟩
 ·exact Or.inl h2
 ·refine Or.inr ⟨g,cap,cur,hv,hg,?_,h3⟩;rw [hb.block g (lO hc)];exact hc
structure GR (B:Nat) (w0:World) (v0:Value) (w1:World) (v1:Value) (xs:List Nat):Prop where
 own:w1.ownsRow B 5 1 v1 xs.length (cellsOf xs)
 grown:w0.grownBy w1 v0.ownBlock
 lies:v1.ownBlock=v0.ownBlock\/∃ j,v1.ownBlock=some j/\w0.heap.size<=j
 base:B<=w0.heap.size
 old:∀ k,v0.ownBlock=some k->B<=k
section
variable {B:Nat} {w0 w1 w2:World} {v0 v1 v2:Value} {xs ys:List Nat}
theorem GR.hid (h:GR B w0 v0 w1 v1 xs):Hid (GR B w0 v0 w1 v1 xs):=h
theorem GR.start (h:w0.ownsRow B 5 1 v0 xs.length (cellsOf xs)) (hB:B<=w0.heap.size):GR B w0 v0 w0 v0 xs :=
 ⟨h,World.grownBy.refl _ _,Or.inl rfl,hB,fun k hk=>(h.lt k hk).1⟩
theorem GR.below (h:GR B w0 v0 w1 v1 xs):Below B w0 w1:=(Below.refl B w0).grown h.grown h.base h.old
theorem GR.size (h:GR B w0 v0 w1 v1 xs):w0.heap.size<=w1.heap.size:=h.grown.size
theorem GR.trans (h:GR B w0 v0 w1 v1 xs) (k:GR B w1 v1 w2 v2 ys):GR B w0 v0 w2 v2 ys:=by
 refine ⟨k.own,h.grown.andThen k.grown ?_,?_,h.base,h.old⟩
 ·intro j hj;rcases h.lies with e | ⟨i,e,hi⟩
  ·right;rw [<-e];exact hj
  ·left;rw [e] at hj;cases hj;exact hi
 ·rcases k.lies with e | ⟨j,e,hj⟩
  ·rw [e];exact h.lies
  ·exact Or.inr ⟨j,e,nT h.size hj⟩
theorem GR.later (h:GR B w0 v0 w1 v1 xs) (hb:Below w1.heap.size w1 w2):GR B w0 v0 w2 v1 xs:=by
 refine ⟨aAk h.own hb,h.grown.trans ⟨hb.os,hb.tape,hb.output,hb.size,fun k hk _=>hb.block k hk⟩,h.lies,h.base,h.old⟩
theorem GR.alloc (h:GR B w0 v0 w1 v1 xs) (o:Obj):GR B w0 v0 (w1.alloc o) v1 xs:=h.later ((Below.refl _ _).alloc (nR _) _)
theorem GR.kept (h:GR B w0 v0 w1 v1 xs) {k:Nat} (hk:k<w0.heap.size) (hne:some k≠v0.ownBlock):w1.heap[k]?=w0.heap[k]?:=h.grown.block k hk hne
theorem GR.step (h:GR B w0 v0 w1 v1 xs) (ho:w2.ownsRow B 5 1 v2 ys.length (cellsOf ys)) (hg:w1.grownBy w2 v1.ownBlock) (hat:v2.ownBlock=v1.ownBlock\/v2.ownBlock=some w1.heap.size):GR B w0 v0 w2 v2 ys :=
 h.trans ⟨ho,hg,hat.imp id fun e=>⟨_,e,nR _⟩,nT h.base h.size,fun k hk=>(h.own.lt k hk).1⟩
end
theorem aA1 {ops:Array Oper} {rest:List Oper} {o:Oper} {a:Act} {Q:Exit->Act->World->Prop} {wr:World} (hgd:o.guard=none) (s x:Operand)
  (ho:o.op=.call { callee:=.builtin .append,args:=#[s,x],argTypes:=#[97,97] })
  (B:Nat) (w0:World) (v0 v:Value) (xs:List Nat) (hs:a.eval s=v) (hR:GR B w0 v0 wr v xs) (g m cx:Nat) (ys:List Nat)
  (hx:a.eval x=.slice (some ⟨g,0,none⟩) m cx) (hm:ys.length=m) (hn:∀ j u,(cellsOf ys)[j]?=some u->wr.cell? ((⟨g,0,none⟩:Addr).add j)=some u) (hsize:xs.length+m<=140737488355328)
  (h:∀ v' w',GR B w0 v0 w' v' (xs++ys)->wpList prog ops Q rest (a.put o.dst v') w'):wpList prog ops Q (o::rest) a wr:=by
 obtain ⟨i0,hi,hz0,hz1,hz2⟩:=info_parts aFn;refine wpList_append_own_at wr hgd s x _ ho B 5 i0 (.int .u8 0) 1 1 underlying97 hi hz0 hz1 hz2 rfl (by omega) v xs.length (cellsOf xs) hs hR.own ⟨g,0,none⟩ m cx (cellsOf ys) hx (by rw [aAi];omega) hn (aA0 ys) (by unfold maxLen;omega) (by omega) (nT hR.base hR.size) ?_;intro v' w' h2 h3 _ h5;refine h v' w' (hR.step ?_ h3 h5);rw [lA,aAt,hm];exact h2
theorem news1 (wr:World) (x:Nat) (t:TypeId):∀ j u,(cellsOf [x])[j]?=some u->(wr.alloc (.cells #[.int .u8 (x:Nat)] t)).cell? ((⟨wr.heap.size,0,none⟩:Addr).add j)=some u:=by
 intro j u hj
 match j,hj with
 | 0,hj=>simp [cellsOf] at hj;subst hj;simp [Addr.add]
def hiB (n size:Nat):List Nat:=(List.range size).map fun i=>n / 256 ^ (size-1-i) % 256
theorem aA9 (n size:Nat):(hiB n size).length=size:=by simp [hiB]
theorem hiB_take (n size k:Nat) (h:k<size):(hiB n size).take (k+1)=(hiB n size).take k++[n / 256 ^ (size-1-k) % 256]:=by
 rw [List.take_add_one]
 congr 1
 simp [hiB,h]
end Go.Proofs.YtdpdjpkmndnaaaaGreat
set_option maxRecDepth 100000
set_option maxHeartbeats 16000000
set_option linter.unusedVariables false
namespace Go.Proofs.YtdpdjpkmndnaaaaGreat
open Go.RowKit _root_.Go.Proofs.Tryz
theorem aCq (B:Nat) (v:Value) (xs:List Nat) (n size:Nat) (w:World) (ho:w.ownsRow B 5 1 v xs.length (cellsOf xs)) (hB:B<=w.heap.size) (hn:n<18446744073709551616) (hsz:size<=8) (hl:xs.length<=1099511627776) :
  Calls prog 175 #[v,.int .u64 n,.int .i64 size] w fun e w'=>∃ v',e=.returned v'/\GR B w v w' v' (xs++hiB n size):=by
 have HS:=(GR.start ho hB).hid;clear ho;go_enter func175,ntmps175;go_wp2;go_loopw [0,9] (fun b i wr=>∃ k:Nat,k<=size/\i=.int .i64 k/\GR B w v wr b (xs++(hiB n size).take k)) (fun _ i _=>size-(intOf i).toNat)
 case atStart=>exact ⟨0,by omega,rfl,by simpa using HS.o⟩
 case round =>
  obtain ⟨k,hk,rfl,hR⟩:=hrel;have HR:=hR.hid;clear hR;by_cases hlt:k<size
  ·obtain ⟨x,HX,hx⟩:∃ x:Nat,Hid (n / 256 ^ (size-1-k) % 256=x)/\(n:Int) / 2 ^ (8*(size-1-k)) % 256=(x:Int):=by
    refine ⟨n / 256 ^ (size-1-k) % 256,rfl,?_⟩;have e:(2:Nat) ^ (8*(size-1-k))=256 ^ (size-1-k):=by rw [Nat.pow_mul]
    have e2:((2:Int) ^ (8*(size-1-k)))=((256 ^ (size-1-k):Nat):Int):=by rw [<-e];simp
    rw [e2];simp
   have hlen:(xs++(hiB n size).take k).length+1<=140737488355328:=by
    rw [lA,List.length_take,aA9];omega
   have HL:Hid ((xs++(hiB n size).take k).length+1<=140737488355328):=hlen;clear hlen;go_wp2_with (at_builtin;refine aA1 rfl _ _ rfl B w v _ _ rfl (HR.o.alloc _) wr.heap.size 1 1 [x] rfl rfl (news1 _ _ _) HL.o ?_);intro v1 w1 hR1;have HR1:=hR1.hid;clear hR1;go_wp2;go_roundw
   case rel =>
    refine ⟨k+1,by omega,by go_num,?_⟩;rw [hiB_take n size k hlt,HX.o];exact HR1.o
   case measure=>simp [intOf];omega
  ·go_wp2;go_ret;have e:k=size:=by omega
   subst e;refine ⟨_,rfl,?_⟩;have:=HR.o;rwa [List.take_of_length_le (by rw [aA9];exact nR _)] at this
theorem hidr {p:Prop} (h:p):Hid p:=h
def valHi (l:List Nat):Nat:=l.foldl (fun n c=>n*256+c) 0
theorem aFx (l:List Nat) (c:Nat):valHi (l++[c])=valHi l*256+c:=by simp [valHi]
theorem valHi_acc (l:List Nat) (h:∀ n∈l,n<256):∀ acc,l.foldl (fun n c=>n*256+c) acc<(acc+1)*256 ^ l.length:=by
 induction l with
 | nil=>intro acc;simp
 | cons c l ih =>
  intro acc;have h2:=h c (by simp);have h1:=ih (fun n hn=>h n (by simp [hn])) (acc*256+c);have h3:(acc*256+c+1)*256 ^ l.length<=((acc+1)*256)*256 ^ l.length:=Nat.mul_le_mul_right _ (by omega);have e:(acc+1)*256 ^ (c::l).length=((acc+1)*256)*256 ^ l.length:=by rw [List.length_cons,Nat.pow_succ,Nat.mul_assoc,Nat.mul_comm 256]
  rw [List.foldl_cons,e];omega
theorem aEw (l:List Nat) (h:∀ n∈l,n<256):valHi l<256 ^ l.length:=by
 have:=valHi_acc l h 0;simpa [valHi] using this
theorem take_snoc {xs:List Nat} {k:Nat} (hk:k<xs.length):xs.take (k+1)=xs.take k++[xs.getD k 0]:=by rw [List.take_add_one];simp [List.getD,hk]
theorem u64_join (m c:Nat) (hm:m<72057594037927936) (hc:c<256):bits .or .u64 ((m:Int)*256) (c:Int)=(m:Int)*256+(c:Int):=by
 have h:=u64_or_nat (m*256) c (by omega) (by omega);have e:m*256 ||| c=m*256+c:=nat_join 8 (m*256) c (by omega) (by omega);rw [e] at h;simpa using h
def hiN (xs:List Nat) (size:Nat):Nat:=if xs.length<size then 0 else valHi (xs.take size)
def hiOk (xs:List Nat) (size:Nat):Bool:=decide (size<=xs.length)
theorem aA3 (a:Option Addr) (len cap:Nat) (xs:List Nat) (size:Nat) (w:World) (h:BS w a len cap xs) (hsz:size<=8) (h0:0<size) :
  Calls prog 229 #[.slice a len cap,.int .i64 size] w fun e w'=>e=.returned (.tuple #[.int .u64 (hiN xs size:Nat),.bool (hiOk xs size)])/\w'=w:=by
 have hroom:=h.hroom;have hcap:=h.hcap;by_cases hlt:len<size
 ·have hlt':(len:Int)<(size:Int):=by omega
  have e1:hiN xs size=0:=if_pos (by rw [h.hlen];exact hlt);have e2:hiOk xs size=false:=by unfold hiOk;rw [h.hlen];simp;omega
  rw [e1,e2];go_enter func229,ntmps229;go_wp2;go_ret2;exact ⟨rfl,rfl⟩
 ·have e1:hiN xs size=valHi (xs.take size):=if_neg (by rw [h.hlen];exact hlt);have e2:hiOk xs size=true:=by unfold hiOk;rw [h.hlen];simp;omega
  rw [e1,e2];obtain ⟨b,o,rfl,hbl,hc⟩:=h.place (by omega);have hlen:Hid (xs.length=len):=h.hlen;have hby:Hid (∀ n∈xs,n<256):=h.hbyte;have HC:=hidr hc;clear h hc;go_enter func229,ntmps229;go_wp2;go_loopw [4,16] (fun n i wr=>∃ k:Nat,k<=size/\i=.int .i64 k/\n=.int .u64 (valHi (xs.take k):Nat)/\wr=w) (fun _ i _=>size-(intOf i).toNat)
  case atStart=>exact ⟨0,by omega,rfl,rfl,rfl⟩
  case round =>
   obtain ⟨k,hk,rfl,rfl,rfl⟩:=hrel;by_cases hks:k<size
   ·have hck:=HC.o k (by omega);obtain ⟨c,Hc⟩:∃ c,Hid (xs.getD k 0=c):=⟨_,rfl⟩;have hcb:c<256:=by rw [<-Hc.out];exact aEj hby.out k
    rw [Hc.out] at hck;have hv:valHi (xs.take k)<72057594037927936:=by
     have h1:=aEw (xs.take k) fun n hn=>hby.out n (List.mem_of_mem_take hn)
     have h2:(xs.take k).length<=7:=by rw [List.length_take];omega
     exact Nat.lt_of_lt_of_le h1 (nT (Nat.pow_le_pow_right (by decide) h2) (by decide))
    have HN:Hid (valHi (xs.take (k+1))=valHi (xs.take k)*256+c):=by rw [take_snoc (by rw [hlen.out];omega),aFx,Hc.out];exact rfl
    generalize valHi (xs.take k)=m at hv HN ⊢;have hj:=u64_join m c hv hcb;go_wp2;go_roundw
    case rel=>exact ⟨k+1,by omega,by go_num,by rw [HN.o];go_num,by first | rfl | trivial⟩
    case measure=>simp [intOf];omega
   ·go_wp2;go_ret2;have e:k=size:=by omega
    subst e;exact ⟨rfl,rfl⟩
end Go.Proofs.YtdpdjpkmndnaaaaGreat
