import Derived.Test.YtmmcebojbbdfmaaGreatY9
import Derived.Test.YtmmcebojbbdfmaaGreatY12
set_option maxRecDepth 100000
set_option maxHeartbeats 16000000
namespace Go.Proofs.YtmmcebojbbdfmaaGreat
open Go.RowKit _root_.Go.Proofs.Tryz
variable {g:Nat} {w wr:World} {ys:List Nat}
theorem aEt {p:Prop} (h:p):Hid p:=h
def dig (n c i:Nat):Nat:=n / 128 ^ (c-1-i) % 128+128
def encW (n:Nat):List Nat:=(List.range (grp n-1)).map (dig n (grp n))++[n % 128]
def updW (n c k:Nat):List Nat:=(List.range c).map fun i=>if i<k then dig n c i else 0
theorem dig_lt (n c i:Nat):dig n c i<256:=by unfold dig;omega
theorem aA7 (n:Nat) (h:1<=grp n):(encW n).length=grp n:=by simp [encW];omega
theorem enc_byte (n:Nat):∀ x∈encW n,x<256:=by
 intro x hx;simp only [encW,List.mem_append,List.mem_map] at hx;rcases hx with ⟨i,_,rfl⟩ | hx
 ·exact dig_lt _ _ _
 ·simp at hx;omega
theorem updW_set (n c k:Nat) (hk:k<c):(updW n c k).set k (dig n c k)=updW n c (k+1):=by
 apply List.ext_getElem?;intro i;simp only [updW,List.getElem?_set,List.getElem?_map,List.length_map,List.length_range];by_cases hi:k=i
 ·subst hi;simp [hk]
 ·rw [if_neg hi];by_cases hc:i<c
  ·rw [List.getElem?_range hc];simp only [Option.map_some]
   congr 1
   by_cases h1:i<k
   ·rw [if_pos h1,if_pos (by omega)]
   ·rw [if_neg h1,if_neg (by omega)]
  ·rw [List.getElem?_eq_none (by simp;omega)];rfl
theorem updW_last (n c:Nat) (hc:1<=c):(updW n c c).set (c-1) (n % 128)=(List.range (c-1)).map (dig n c)++[n % 128]:=by
 apply List.ext_getElem?;intro i;simp only [updW,List.getElem?_set,List.getElem?_map,List.length_map,List.length_range,List.getElem?_append];by_cases hi:c-1=i
 ·subst hi;simp;omega
 ·rw [if_neg hi];by_cases h1:i<c-1
  ·rw [if_pos h1,List.getElem?_range h1,List.getElem?_range (show i<c by omega)];simp;omega
  ·rw [if_neg h1,List.getElem?_eq_none (by simp;omega),List.getElem?_eq_none (by simp;omega)];rfl
structure Row (w wr:World) (g:Nat) (ys:List Nat):Prop where
 below:Below w.heap.size w wr
 new:w.heap.size<=g
 blk:wr.heap[g]?=some (.cells (cellsOf ys).toArray 5 (0,0))
theorem Row.cell (h:Row w wr g ys) (j:Nat) (hj:j<ys.length):wr.cell? ⟨g,j,none⟩=some (.int .u8 (ys.getD j 0:Nat)):=by
 rw [cell_of_row _ _ _ _ _ _ h.blk,List.getElem?_toArray,aBp ys j hj]
theorem Row.frozen (h:Row w wr g ys) (j:Nat):wr.frozen? ⟨g,j,none⟩=false:=frozen_of_row _ _ _ _ _ h.blk
theorem Row.set (h:Row w wr g ys) (j n:Nat):Row w (wr.setCell ⟨g,j,none⟩ (.int .u8 n)) g (ys.set j n):=by
 refine ⟨h.below.setCell h.new _,h.new,?_⟩;rw [heap_setCell_same _ _ _ _ _ _ h.blk]
 congr 2
 simp [cellsOf,List.map_set]
theorem Row.hid (h:Row w wr g ys):Hid (Row w wr g ys):=h
theorem Row.made (w:World) (c:Nat) (ys:List Nat) (h:ys=List.replicate c 0):Row w (w.alloc (.cells (madeCells #[.int .u8 0] c) 5)) w.heap.size ys:=by
 refine ⟨(Below.refl _ _).alloc (nR _) _,nR _,?_⟩;rw [heap_alloc_new]
 congr 2
 apply Array.ext';rw [toList_madeCells_one,h];simp [cellsOf]
theorem updW_zero (n c:Nat):updW n c 0=List.replicate c 0:=by
 apply List.ext_getElem?;intro i;simp only [updW,List.getElem?_map,List.getElem?_replicate];by_cases h:i<c
 ·rw [List.getElem?_range h,if_pos h];simp
 ·rw [List.getElem?_eq_none (by simp;omega),if_neg h];rfl
theorem updW_at (n c k:Nat) (hk:k<c):(updW n c c).getD k 0=dig n c k:=by
 simp [updW,List.getD_eq_getElem?_getD,hk]
theorem dig_bits (n c k:Nat) (h:n<9223372036854775808):bits .or .i64 (bits .and .i64 ((n:Int) / 2 ^ (7*(c-1-k))) 127) 128 % 256=((dig n c k:Nat):Int):=by
 have e1:(n:Int) / 2 ^ (7*(c-1-k))=((n / 128 ^ (c-1-k):Nat):Int):=by
  rw [<-pow128];simp
 have hle:n / 128 ^ (c-1-k)<=n:=Nat.div_le_self _ _;have e2:=i64_and_nat (n / 128 ^ (c-1-k)) 127 (by omega) (by decide);rw [nat_mask7] at e2;have e3:=aD2 (n / 128 ^ (c-1-k) % 128) 128 (by omega) (by decide);have e4:n / 128 ^ (c-1-k) % 128 ||| 128=128+n / 128 ^ (c-1-k) % 128:=by
  rw [Nat.or_comm];exact nat_join 7 128 _ (by decide) (by omega)
 rw [e1,show (127:Int)=((127:Nat):Int) from rfl,e2,show (128:Int)=((128:Nat):Int) from rfl,e3,e4];unfold dig;omega
theorem dig_mask (n c:Nat):bits .and .u8 ((dig n c (c-1):Nat):Int) 127=((n % 128:Nat):Int):=by
 have e:=u8_and_nat (dig n c (c-1)) 127 (dig_lt _ _ _) (by decide);rw [nat_mask7] at e;have e2:dig n c (c-1) % 128=n % 128:=by
  unfold dig;rw [Nat.sub_self,Nat.pow_zero,Nat.div_one];omega
 rw [e2] at e;exact e
theorem uint_any (n:Nat) (w:World) (h:n<9223372036854775808) :
  Calls prog 50 #[.int .i64 n] w fun e w' =>
   ∃ g,e=.returned (.slice (some ⟨g,0,none⟩) (grp n) (grp n))/\Row w w' g (encW n):=by
 obtain ⟨g1,g2,g3,g4,g5⟩:=aA2 n h;have HG:=groups_any n w h;have HE:Hid (encW n=(List.range (grp n-1)).map (dig n (grp n))++[n % 128]):=rfl;generalize grp n=c at *
 have HG:Hid (Calls prog 68 #[.int .i64 n] w fun e w'=>e=.returned (.int .i64 c)/\w'=w):=HG;have hmk:=run_make_row' (P:=prog) 26 5 (.int .u8 0) 1 underlying26 aF2 rfl .i64 .i64 c (by omega) (by omega);clear g3 g4 g5;have h0:¬ (n:Int)<0:=by omega
 go_enter func50,ntmps50;go_wp2_with fail;refine HG.out.mono ?_;rintro e w' ⟨rfl,hw⟩;have hw:=hw.symm;subst hw;go_wp2_with fail;have hR:=Row.made w c (updW n c 0) (updW_zero n c);generalize w.alloc (.cells (madeCells #[.int .u8 0] c) 5)=w1 at *
 generalize hgg:w.heap.size=g at *
 go_loopw [14] (fun i wr=>∃ k:Nat,k<=c/\i=.int .i64 k/\Row w wr g (updW n c k)) (fun i _=>c-(intOf i).toNat)
 case atStart=>exact ⟨0,by omega,rfl,hR⟩
 case round =>
  clear hR;obtain ⟨k,hk,rfl,hR⟩:=hrel;have HR:=hR.hid;clear hR;by_cases hlt:k<c
  ·have hcc:=HR.out.cell k (by simpa [updW] using hlt);have hff:=HR.out.frozen k;have HD:=aEt (dig_bits n c k h);have HS:Hid (Row w (wr.setCell ⟨g,k,none⟩ (.int .u8 (dig n c k:Nat))) g (updW n c (k+1))):=by rw [<-updW_set n c k hlt];exact HR.out.set k (dig n c k)
   go_wp2;go_roundw
   case rel=>exact ⟨k+1,by omega,by go_num,by rw [HD.out];exact HS.out⟩
   case measure=>simp [intOf];omega
  ·obtain rfl:k=c:=by omega
   have hcc:=HR.out.cell (k-1) (by simp [updW];omega);rw [updW_at n k (k-1) (by omega)] at hcc;have hff:=HR.out.frozen (k-1);have hm:=dig_mask n k;generalize dig n k (k-1)=d at *
   have HS:Hid (Row w (wr.setCell ⟨g,k-1,none⟩ (.int .u8 (n % 128:Nat))) g (encW n)):=by rw [HE.out,<-updW_last n k g1];exact HR.out.set (k-1) (n % 128)
   go_wp2;go_ret;exact ⟨g,rfl,by have e:=HS.out;rw [Int.natCast_emod] at e;exact e⟩
end Go.Proofs.YtmmcebojbbdfmaaGreat
namespace Go.Proofs.YtmmcebojbbdfmaaGreat
open _root_.Go.Proofs.Tryz
def rsf (n:Nat):Nat->List Nat
 | 0=>[n % 128]
 | j+1=>(n / 128 ^ (j+1) % 128+128)::rsf n j
theorem rsf_eq (n:Nat):∀ j,rsf n j=(List.range j).map (fun i=>n / 128 ^ (j-i) % 128+128)++[n % 128]
 | 0=>by simp [rsf]
 | j+1=>by
  rw [rsf,rsf_eq n j,List.range_succ_eq_map]
  simp only [List.map_cons,List.map_map,List.cons_append,Nat.sub_zero]
  congr 2
  apply List.map_congr_left
  intro i _
  simp [Function.comp]
theorem rsf_enc (n:Nat):rsf n (grp n-1)=encW n:=by
 rw [rsf_eq];rfl
end Go.Proofs.YtmmcebojbbdfmaaGreat
namespace Go.Proofs.YtmmcebojbbdfmaaGreat
open _root_.Go.Proofs.Tryz
def em (m:Nat):Nat->List Nat
 | 0=>[]
 | j+1=>(m / 128 ^ j % 128+128)::em m j
theorem em_snoc (m:Nat):∀ j,em m (j+1)=em (m / 128) j++[m % 128+128]
 | 0=>by simp [em]
 | j+1=>by
  rw [em,em_snoc m j,em]
  simp only [List.cons_append]
  congr 2
  rw [Nat.div_div_eq_div_mul,Nat.pow_succ,Nat.mul_comm 128]
theorem rsf_em (n:Nat):∀ j,rsf n j=em (n / 128) j++[n % 128]
 | 0=>rfl
 | j+1=>by
  rw [rsf,rsf_em n j,em]
  simp only [List.cons_append]
  congr 2
  rw [Nat.div_div_eq_div_mul,Nat.pow_succ,Nat.mul_comm 128]
theorem enc_em (n:Nat):encW n=em (n / 128) (grp n-1)++[n % 128]:=by rw [<-rsf_enc,rsf_em]
theorem pow_le9 {k:Nat} (h:k<=9):128 ^ k<=9223372036854775808:=by
 have:=Nat.pow_le_pow_right (n:=128) (by decide) h;simpa using this
theorem grp_of (n i:Nat) (hi:i<=8) (h1:n<128 ^ (i+1)) (h2:0<i->128 ^ i<=n):grp n=i+1:=by
 have hn:n<9223372036854775808:=Nat.lt_of_lt_of_le h1 (pow_le9 (by omega));obtain ⟨g1,g2,g3,g4,g5⟩:=aA2 n hn;rcases Nat.lt_trichotomy (grp n) (i+1) with z | z | z
 ·exfalso;have h3:=h2 (by omega);have hp:128 ^ grp n<=128 ^ i:=Nat.pow_le_pow_right (by decide) (by omega);omega
 ·exact z
 ·exfalso;have hn0:n≠0:=fun h=>by have:=g5 h;omega
  have h3:=g4 hn0;have hp:128 ^ (i+1)<=128 ^ (grp n-1):=Nat.pow_le_pow_right (by decide) (by omega);omega
theorem rdF_enc:∀ (k i:Nat) (xs:List Nat) (n:Nat),i+k<=9->(∀ x∈xs,x<256)->n<128 ^ i->(0<i->128 ^ (i-1)<=n)->(rdFW k i xs n).2.2=0 ->
  em n i++xs.take ((rdFW k i xs n).2.1-i)=encW (rdFW k i xs n).1/\(rdFW k i xs n).1<9223372036854775808
 | 0,i,xs,n=>by simp [rdFW]
 | k+1,i,[],n=>by simp [rdFW]
 | k+1,i,c::r,n=>by
  intro hik hb hn1 hn2
  have hc:=hb c (by simp)
  rw [aC2]
  split
  ·simp
  ·rename_i h128
   split
   ·rename_i hlt
    intro _
    have hp:n*128+c % 128<128 ^ (i+1):=by rw [Nat.pow_succ];omega
    have hlow:0<i->128 ^ i<=n*128+c % 128:=fun h0=>by
     have h1:=hn2 h0;have e:128 ^ i=128 ^ (i-1)*128:=by rw [<-Nat.pow_succ];congr 1;omega
     omega
    have hg:=grp_of (n*128+c % 128) i (by omega) hp hlow;refine ⟨?_,Nat.lt_of_lt_of_le hp (pow_le9 (by omega))⟩;rw [enc_em,hg];simp only [Nat.add_sub_cancel,Nat.add_sub_cancel_left,List.take_succ_cons,List.take_zero];rw [show (n*128+c % 128) / 128=n by omega,show (n*128+c % 128) % 128=c by omega]
   ·rename_i hge
    intro he;have hp:n*128+c % 128<128 ^ (i+1):=by rw [Nat.pow_succ];omega
    have hlow:128 ^ i<=n*128+c % 128:=by
     by_cases h0:i=0
     ·subst h0;simp;omega
     ·have h1:=hn2 (by omega);have e:128 ^ i=128 ^ (i-1)*128:=by rw [<-Nat.pow_succ];congr 1;omega
      omega
    have ih:=rdF_enc k (i+1) r (n*128+c % 128) (by omega) (fun x hx=>hb x (by simp [hx])) hp (fun _=>by simpa using hlow) he;refine ⟨?_,ih.2⟩;rw [<-ih.1,em_snoc,show (n*128+c % 128) / 128=n by omega,show (n*128+c % 128) % 128+128=c by omega];have hnx:=(aFw k (i+1) r (n*128+c % 128) he).1;generalize (rdFW k (i+1) r (n*128+c % 128)).2.1=K at *
    rw [show K-i=(K-(i+1))+1 by omega,List.take_succ_cons];simp
theorem ru_enc (xs:List Nat) (p:Int) (hb:∀ x∈xs,x<256) (h:ruE xs p=0):(xs.drop p.toNat).take (ruP xs p-p.toNat)=encW (ruN xs p)/\ruN xs p<9223372036854775808:=by
 have hpp:=ruP_le h;have hp:0<=p/\p<=xs.length:=by omega
 have e1:ruN xs p=(rdN xs p.toNat).1:=by unfold ruN;rw [if_pos hp]
 have e2:ruP xs p=rdNext xs p.toNat:=by unfold ruP;rw [if_pos hp]
 have e3:ruE xs p=(rdN xs p.toNat).2.2:=by unfold ruE;rw [if_pos hp]
 rw [e3] at h;have e4:rdNext xs p.toNat=p.toNat+(rdN xs p.toNat).2.1:=by unfold rdNext;rw [if_pos h]
 have:=rdF_enc 9 0 (xs.drop p.toNat) 0 (by omega) (fun x hx=>hb x (List.mem_of_mem_drop hx)) (by decide) (by omega) h;rw [e1,e2,e4,Nat.add_sub_cancel_left];simpa [em,rdN] using this
def val (n:Nat) (zs:List Nat):Nat:=zs.foldl (fun n c=>n*128+c % 128) n
theorem aFd (xs:List Nat):(str xs).toList=xs.map UInt8.ofNat:=by
 rw [ByteArray.toList_eq,str,strOfNums_data,List.map_map];rfl
theorem u8_inj {a b:Nat} (ha:a<256) (hb:b<256) (h:UInt8.ofNat a=UInt8.ofNat b):a=b:=by
 have:=congrArg UInt8.toNat h;simp only [UInt8.toNat_ofNat'] at this;omega
theorem aFk:∀ (xs ys:List Nat),(∀ x∈xs,x<256)->(∀ y∈ys,y<256)->xs.map UInt8.ofNat=ys.map UInt8.ofNat->xs=ys
 | [],[],_,_,_=>rfl
 | [],_::_,_,_,h=>by simp at h
 | _::_,[],_,_,h=>by simp at h
 | x::xs,y::ys,hx,hy,h=>by
  simp only [List.map_cons,List.cons.injEq] at h
  rw [u8_inj (hx x (by simp)) (hy y (by simp)) h.1,aFk xs ys (fun z hz=>hx z (by simp [hz])) (fun z hz=>hy z (by simp [hz])) h.2]
theorem str_beq (xs ys:List Nat) (hx:∀ x∈xs,x<256) (hy:∀ y∈ys,y<256):((str xs).toList == (str ys).toList)=decide (xs=ys):=by
 rw [aFd,aFd,Bool.eq_iff_iff];simp only [beq_iff_eq,decide_eq_true_eq];exact ⟨aFk xs ys hx hy,fun h=>by rw [h]⟩
end Go.Proofs.YtmmcebojbbdfmaaGreat
