import Derived.Test.YtdpdjpkmndnaaaaGreatYb9
import Derived.Test.YtdpdjpkmndnaaaaGreatYb14
set_option maxRecDepth 100000
set_option maxHeartbeats 16000000
namespace Go.Proofs.YtdpdjpkmndnaaaaGreat
open Go.RowKit _root_.Go.Proofs.Tryz
abbrev kBg:=@heap_setCell_same
variable {g:Nat} {w wr:World} {ys:List Nat}
theorem bCz {p:Prop} (h:p):Hid p:=h
def dig (n c i:Nat):Nat:=n / 128 ^ (c-1-i) % 128+128
def enc (n:Nat):List Nat:=(List.range (grp n-1)).map (dig n (grp n))++[n % 128]
def bEy (n c k:Nat):List Nat:=(List.range c).map fun i=>if i<k then dig n c i else 0
theorem bPr (n c i:Nat):dig n c i<256:=by unfold dig;omega
theorem aAs (n:Nat) (h:1<=grp n):(enc n).length=grp n:=by simp [enc];omega
theorem bOi (n:Nat):∀ x∈enc n,x<256:=by
 intro x hx;simp only [enc,kAz,List.mem_map] at hx;rcases hx with ⟨i,_,rfl⟩ | hx
 ·exact bPr _ _ _
 ·simp at hx;omega
theorem bMk (n c k:Nat) (hk:k<c):(bEy n c k).set k (dig n c k)=bEy n c (k+1):=by
 apply List.ext_getElem?;intro i;simp only [bEy,List.getElem?_set,kAq,kAp,List.length_range];by_cases hi:k=i
 ·subst hi;simp [hk]
 ·rw [kAb hi];by_cases hc:i<c
  ·rw [List.getElem?_range hc];simp only [Option.map_some]
   congr 1
   by_cases h1:i<k
   ·rw [kAg h1,kAg (by omega)]
   ·rw [kAb h1,kAb (by omega)]
  ·rw [kA6 (by simp;omega)];rfl
theorem bId (n c:Nat) (hc:1<=c):(bEy n c c).set (c-1) (n % 128)=(List.range (c-1)).map (dig n c)++[n % 128]:=by
 apply List.ext_getElem?;intro i;simp only [bEy,List.getElem?_set,kAq,kAp,List.length_range,List.getElem?_append];by_cases hi:c-1=i
 ·subst hi;simp;omega
 ·rw [kAb hi];by_cases h1:i<c-1
  ·rw [kAg h1,List.getElem?_range h1,List.getElem?_range (show i<c by omega)];simp;omega
  ·rw [kAb h1,kA6 (by simp;omega),kA6 (by simp;omega)];rfl
structure Row (w wr:World) (g:Nat) (ys:List Nat):Prop where
 below:Below w.heap.size w wr
 new:w.heap.size<=g
 blk:wr.heap[g]?=some (.cells (cellsOf ys).toArray 5 (0,0))
theorem Row.cell (h:Row w wr g ys) (j:Nat) (hj:j<ys.length):wr.cell? ⟨g,j,none⟩=some (.int .u8 (ys.getD j 0:Nat)):=by
 rw [cell_of_row _ _ _ _ _ _ h.blk,kAj,aBf ys j hj]
theorem Row.frozen (h:Row w wr g ys) (j:Nat):wr.frozen? ⟨g,j,none⟩=false:=frozen_of_row _ _ _ _ _ h.blk
theorem Row.set (h:Row w wr g ys) (j n:Nat):Row w (wr.setCell ⟨g,j,none⟩ (.int .u8 n)) g (ys.set j n):=by
 refine ⟨h.below.setCell h.new _,h.new,?_⟩;rw [kBg _ _ _ _ _ _ h.blk]
 congr 2
 simp [cellsOf,List.map_set]
theorem Row.hid (h:Row w wr g ys):Hid (Row w wr g ys):=h
theorem Row.made (w:World) (c:Nat) (ys:List Nat) (h:ys=List.replicate c 0):Row w (w.alloc (.cells (madeCells #[.int .u8 0] c) 5)) w.heap.size ys:=by
 refine ⟨(kBh _ _).alloc (nR _) _,nR _,?_⟩;rw [kBm]
 congr 2
 apply Array.ext';rw [toList_madeCells_one,h];simp [cellsOf]
theorem bIc (n c:Nat):bEy n c 0=List.replicate c 0:=by
 apply List.ext_getElem?;intro i;simp only [bEy,kAq,List.getElem?_replicate];by_cases h:i<c
 ·rw [List.getElem?_range h,kAg h];simp
 ·rw [kA6 (by simp;omega),kAb h];rfl
theorem bP2 (n c k:Nat) (hk:k<c):(bEy n c c).getD k 0=dig n c k:=by
 simp [bEy,hk]
theorem bOo (n c k:Nat) (h:n<9223372036854775808):bits .or .i64 (bits .and .i64 ((n:Int) / 2 ^ (7*(c-1-k))) 127) 128 % 256=((dig n c k:Nat):Int):=by
 have e1:(n:Int) / 2 ^ (7*(c-1-k))=((n / 128 ^ (c-1-k):Nat):Int):=by
  rw [<-bJh];simp
 have hle:n / 128 ^ (c-1-k)<=n:=Nat.div_le_self _ _;have e2:=bEh (n / 128 ^ (c-1-k)) 127 (by omega) (by decide);rw [nat_mask7] at e2;have e3:=aGo (n / 128 ^ (c-1-k) % 128) 128 (by omega) (by decide);have e4:n / 128 ^ (c-1-k) % 128 ||| 128=128+n / 128 ^ (c-1-k) % 128:=by
  rw [Nat.or_comm];exact nat_join 7 128 _ (by decide) (by omega)
 rw [e1,show (127:Int)=((127:Nat):Int) from rfl,e2,show (128:Int)=((128:Nat):Int) from rfl,e3,e4];unfold dig;omega
theorem bOn (n c:Nat):bits .and .u8 ((dig n c (c-1):Nat):Int) 127=((n % 128:Nat):Int):=by
 have e:=u8_and_nat (dig n c (c-1)) 127 (bPr _ _ _) (by decide);rw [nat_mask7] at e;have e2:dig n c (c-1) % 128=n % 128:=by
  unfold dig;rw [Nat.sub_self,Nat.pow_zero,Nat.div_one];omega
 rw [e2] at e;exact e
theorem bMo (n:Nat) (w:World) (h:n<9223372036854775808) :
  Calls prog 101 #[.int .i64 n] w fun e w' =>
   ∃ g,e=.returned (.slice (some ⟨g,0,none⟩) (grp n) (grp n))/\Row w w' g (enc n):=by
 obtain ⟨g1,g2,g3,g4,g5⟩:=aAt n h;have HG:=bHj n w h;have HE:Hid (enc n=(List.range (grp n-1)).map (dig n (grp n))++[n % 128]):=rfl;generalize grp n=c at *;have HG:Hid (Calls prog 143 #[.int .i64 n] w fun e w'=>e=.returned (.int .i64 c)/\w'=w):=HG;have hmk:=run_make_row' (P:=prog) 97 5 (.int .u8 0) 1 underlying97 aF6 rfl .i64 .i64 c (by omega) (by omega);clear g3 g4 g5;have h0:¬ (n:Int)<0:=by omega
 go_enter func101,ntmps101;go_wp2_with fail;refine HG.o.mono ?_;rintro e w' ⟨rfl,hw⟩;have hw:=hw.symm;subst hw;go_wp2_with fail;have hR:=Row.made w c (bEy n c 0) (bIc n c);generalize w.alloc (.cells (madeCells #[.int .u8 0] c) 5)=w1 at *;generalize hgg:w.heap.size=g at *;go_loopw [14] (fun i wr=>∃ k:Nat,k<=c/\i=.int .i64 k/\Row w wr g (bEy n c k)) (fun i _=>c-(intOf i).toNat)
 case atStart=>exact ⟨0,by omega,rfl,hR⟩
 case round =>
  clear hR;obtain ⟨k,hk,rfl,hR⟩:=hrel;have HR:=hR.hid;clear hR;by_cases hlt:k<c
  ·have hcc:=HR.o.cell k (by simpa [bEy] using hlt);have hff:=HR.o.frozen k;have HD:=bCz (bOo n c k h);have HS:Hid (Row w (wr.setCell ⟨g,k,none⟩ (.int .u8 (dig n c k:Nat))) g (bEy n c (k+1))):=by rw [<-bMk n c k hlt];exact HR.o.set k (dig n c k)
   go_wp2;go_roundw
   case rel=>exact ⟨k+1,by omega,by go_num,by rw [HD.o];exact HS.o⟩
   case measure=>simp [intOf];omega
  ·obtain rfl:k=c:=by omega
   have hcc:=HR.o.cell (k-1) (by simp [bEy];omega);rw [bP2 n k (k-1) (by omega)] at hcc;have hff:=HR.o.frozen (k-1);have hm:=bOn n k;generalize dig n k (k-1)=d at *;have HS:Hid (Row w (wr.setCell ⟨g,k-1,none⟩ (.int .u8 (n % 128:Nat))) g (enc n)):=by rw [HE.o,<-bId n k g1];exact HR.o.set (k-1) (n % 128)
   go_wp2;go_ret;exact ⟨g,rfl,by have e:=HS.o;rw [Int.natCast_emod] at e;exact e⟩
end Go.Proofs.YtdpdjpkmndnaaaaGreat
namespace Go.Proofs.YtdpdjpkmndnaaaaGreat
open _root_.Go.Proofs.Tryz
def rsf (n:Nat):Nat->List Nat
 | 0=>[n % 128]
 | j+1=>(n / 128 ^ (j+1) % 128+128)::rsf n j
theorem bO9 (n:Nat):∀ j,rsf n j=(List.range j).map (fun i=>n / 128 ^ (j-i) % 128+128)++[n % 128]
 | 0=>by simp [rsf]
 | j+1=>by
  rw [rsf,bO9 n j,List.range_succ_eq_map]
  simp only [List.map_cons,List.map_map,List.cons_append,Nat.sub_zero]
  congr 2
  apply List.map_congr_left
  intro i _
  simp [Function.comp]
theorem bQl (n:Nat):rsf n (grp n-1)=enc n:=by
 rw [bO9];rfl
end Go.Proofs.YtdpdjpkmndnaaaaGreat
namespace Go.Proofs.YtdpdjpkmndnaaaaGreat
open _root_.Go.Proofs.Tryz
def em (m:Nat):Nat->List Nat
 | 0=>[]
 | j+1=>(m / 128 ^ j % 128+128)::em m j
theorem bDa (m j:Nat):(em m j).length=j:=by induction j with | zero=>rfl | succ j ih=>simp [em,ih]
theorem bPa (n:Nat):∀ j,rsf n j=em (n / 128) j++[n % 128]
 | 0=>rfl
 | j+1=>by
  rw [rsf,bPa n j,em]
  simp only [List.cons_append]
  congr 2
  rw [Nat.div_div_eq_div_mul,Nat.pow_succ,Nat.mul_comm 128]
theorem bTv (n:Nat):enc n=em (n / 128) (grp n-1)++[n % 128]:=by rw [<-bQl,bPa]
def val (n:Nat) (zs:List Nat):Nat:=zs.foldl (fun n c=>n*128+c % 128) n
theorem bO3 (m:Nat):∀ j n,val n (em m j)=n*128 ^ j+m % 128 ^ j
 | 0,n=>by simp [val,em,Nat.mod_one]
 | j+1,n=>by
  rw [em]
  show val (n*128+(m / 128 ^ j % 128+128) % 128) (em m j)=_
  rw [bO3 m j]
  have e:(m / 128 ^ j % 128+128) % 128=m / 128 ^ j % 128:=by omega
  rw [e,Nat.pow_succ];have h1:m % (128 ^ j*128)=m % 128 ^ j+128 ^ j*(m / 128 ^ j % 128):=Nat.mod_mul;rw [h1,Nat.add_mul,Nat.mul_assoc,Nat.mul_comm 128 (128 ^ j),Nat.mul_comm (m / 128 ^ j % 128)];omega
theorem bI9:∀ (zs:List Nat) (k i c n:Nat) (rest:List Nat),(∀ z∈zs,128<=z)->(i=0->zs.head?≠some 128)->zs.length<k->c<128 ->
  rdF k i (zs++c::rest) n=(val n zs*128+c,i+zs.length+1,0)
 | [],k,i,c,n,rest=>by
  intro _ _ hk hc
  obtain ⟨k,rfl⟩:∃ j,k=j+1:=⟨k-1,by simp at hk;omega⟩
  rw [List.nil_append,aEm,kAb (by omega),kAg hc]
  simp [val]
  omega
 | z::zs,k,i,c,n,rest=>by
  intro hz h0 hk hc
  obtain ⟨k,rfl⟩:∃ j,k=j+1:=⟨k-1,by simp at hk;omega⟩
  have hz1:=hz z (by simp)
  rw [List.cons_append,aEm,kAb (fun h=>h0 h.1 (by simp [h.2])),kAb (by omega),bI9 zs k (i+1) c _ rest (fun x hx=>hz x (by simp [hx])) (by omega) (by simp at hk;omega) hc]
  simp [val]
  omega
theorem bLh (m j:Nat):∀ z∈em m j,128<=z:=by
 induction j with
 | zero=>simp [em]
 | succ j ih =>
  intro z hz;simp only [em,kAv] at hz;rcases hz with rfl | hz
  ·omega
  ·exact ih z hz
theorem bPd (n:Nat) (h:n<9223372036854775808) (pre rest:List Nat):rdN (pre++(enc n++rest)) pre.length=(n,grp n,0):=by
 obtain ⟨g1,g2,g3,g4,g5⟩:=aAt n h;unfold rdN;rw [List.drop_left,bTv,kAu,List.singleton_append];have hm:n / 128<128 ^ (grp n-1):=by
  have e:128 ^ grp n=128 ^ (grp n-1)*128:=by rw [<-Nat.pow_succ];congr 1;omega
  rw [e] at g3;exact Nat.div_lt_of_lt_mul (by rw [Nat.mul_comm];exact g3)
 rw [bI9 _ 9 0 (n % 128) 0 rest (bLh _ _) ?_ (by rw [bDa];omega) (by omega),bO3,bDa,Nat.mod_eq_of_lt hm]
 ·refine Prod.ext (by simp;omega) (Prod.ext (by simp;omega) rfl)
 ·intro _;rcases Nat.eq_zero_or_pos (grp n-1) with z | z
  ·rw [z];simp [em]
  ·obtain ⟨j,hj⟩:∃ j,grp n-1=j+1:=⟨grp n-2,by omega⟩;rw [hj] at hm ⊢;have hn0:n≠0:=fun h=>by have:=g5 h;omega
   have h4:=g4 hn0;rw [hj,Nat.pow_succ] at h4;rw [em];simp only [List.head?_cons,ne_eq,oI];have hd:n / 128 / 128 ^ j<128:=Nat.div_lt_of_lt_mul (by rw [<-Nat.pow_succ];exact hm)
   have hd2:1<=n / 128 / 128 ^ j:=(Nat.le_div_iff_mul_le (Nat.pow_pos (by decide))).2 (by
    rw [Nat.one_mul]
    exact (Nat.le_div_iff_mul_le (by decide)).2 h4)
   omega
theorem aJd (xs:List Nat):(str xs).toList=xs.map UInt8.ofNat:=by
 rw [ByteArray.toList_eq,str,strOfNums_data,List.map_map];rfl
theorem bSm {a b:Nat} (ha:a<256) (hb:b<256) (h:UInt8.ofNat a=UInt8.ofNat b):a=b:=by
 have:=congrArg UInt8.toNat h;simp only [UInt8.toNat_ofNat'] at this;omega
theorem aJl:∀ (xs ys:List Nat),(∀ x∈xs,x<256)->(∀ y∈ys,y<256)->xs.map UInt8.ofNat=ys.map UInt8.ofNat->xs=ys
 | [],[],_,_,_=>rfl
 | [],_::_,_,_,h=>by simp at h
 | _::_,[],_,_,h=>by simp at h
 | x::xs,y::ys,hx,hy,h=>by
  simp only [List.map_cons,List.cons.injEq] at h
  rw [bSm (hx x (by simp)) (hy y (by simp)) h.1,aJl xs ys (fun z hz=>hx z (by simp [hz])) (fun z hz=>hy z (by simp [hz])) h.2]
theorem bQd (xs ys:List Nat) (hx:∀ x∈xs,x<256) (hy:∀ y∈ys,y<256):((str xs).toList == (str ys).toList)=decide (xs=ys):=by
 rw [aJd,aJd,Bool.eq_iff_iff];simp only [beq_iff_eq,decide_eq_true_eq];exact ⟨aJl xs ys hx hy,fun h=>by rw [h]⟩
end Go.Proofs.YtdpdjpkmndnaaaaGreat
