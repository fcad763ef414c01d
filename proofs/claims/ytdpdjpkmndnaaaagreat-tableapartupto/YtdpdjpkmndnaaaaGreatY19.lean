import Derived.Test.YtdpdjpkmndnaaaaGreatY15
import Derived.Test.YtdpdjpkmndnaaaaGreatY16
import Derived.Test.YtdpdjpkmndnaaaaGreatY10
set_option maxRecDepth 100000
set_option maxHeartbeats 16000000
namespace Go.Proofs.YtdpdjpkmndnaaaaGreat
open Go.RowKit Tryz
variable {g:Nat} {w w1 wr:World}
theorem ones_xor (r:Nat) (h:r<2 ^ 32):4294967295 ^^^ r=4294967295-r:=by
 apply Nat.eq_of_testBit_eq;intro i;have e1:(4294967295:Nat)=2 ^ 32-(0+1):=by decide
 have e2:4294967295-r=2 ^ 32-(r+1):=by omega
 rw [Nat.testBit_xor,e2,Nat.testBit_two_pow_sub_succ h,e1,Nat.testBit_two_pow_sub_succ (by decide)];by_cases hi:i<32
 ·simp [hi]
 ·have:r.testBit i=false:=Nat.testBit_lt_two_pow (Nat.lt_of_lt_of_le h (Nat.pow_le_pow_right (by decide) (by omega)));simp [hi,this]
theorem not_u32 (r:Nat) (h:r<4294967296):bits .xor .u32 IntKind.u32.max (r:Int)=((4294967295-r:Nat):Int):=by
 have e:IntKind.u32.max=((4294967295:Nat):Int):=by decide
 rw [e,u32_xor_nat _ _ (by decide) h,ones_xor r h]
structure SumW (w wr:World) (g:Nat):Prop where
 below:Below w.heap.size w wr
 cells:∀ j,j<128->wr.cell? ⟨g,j,none⟩=some (.int .u32 (tab.getD j 0:Nat))/\tab.getD j 0<2 ^ 32
theorem SumW.drewN (h:SumW w wr g) (n:Nat):SumW w (wr.drewN n) g:=by
 induction n with
 | zero=>exact h
 | succ n ih=>exact ⟨ih.below.drew,fun j hj=>ih.cells j hj⟩
theorem SumW.start (hb:Below w.heap.size w w1):SumW w ((w1.alloc (.cells z128 369)).setCells w1.heap.size 0 tabV.toList) w1.heap.size:=by
 have hs:=hb.size;refine ⟨below_setCells (by omega) _ _ _ (hb.alloc (by omega) _),fun j hj=>⟨?_,tab_small ⟨j,hj⟩⟩⟩;have ht:=aJm (heap_alloc_new w1 (.cells z128 369));have hr:=World.rangeAt_setCells_same _ _ _ tabV.toList (by simpa using ht);have hj':j<tab.size:=by rw [tab_size];exact hj
 have:=hr j (u32v (tab.getD j 0)) (by simp [tabV,Array.getD,hj']);simpa [u32v] using this
theorem sum_pos (b o len cap:Nat) (xs:List Nat) (w:World) (h:BS w (some ⟨b,o,none⟩) len cap xs) (h0:0<len) (hbl:b<w.heap.size) (hc:∀ i,i<len->w.cell? ⟨b,o+i,none⟩=some (.int .u8 (xs.getD i 0:Nat))) :
  Calls prog 244 #[.slice (some ⟨b,o,none⟩) len cap] w fun e w'=>e=.returned (.int .u32 (4294967295-crc 4294967295 xs:Nat))/\Below w.heap.size w w':=by
 have hroom:=h.hroom;have hcap:=h.hcap;have hlen:Hid (xs.length=len):=h.hlen;have hby:Hid (∀ n∈xs,n<256):=h.hbyte;have HC:Hid (∀ i,i<len->w.cell? ⟨b,o+i,none⟩=some (.int .u8 (xs.getD i 0:Nat))):=hc;clear h hc;have hz:=aGb;have hi:(prog.info? 369).map (·.size)=some tabV.size:=by rw [aFb];exact info48
 go_enter func244,ntmps244;go_wp2_with fail;refine (aFr _).mono ?_;rintro e w1 ⟨rfl,hb1⟩;have ht:=aJm (heap_alloc_new w1 (.cells z128 369));go_wp2_with (refine wpList_store_mid rfl 369 _ _ rfl w1.heap.size 0 tabV rfl rfl ht hi aJn ?_);have hst:=SumW.start hb1;generalize w1.heap.size=g at hst ⊢;clear ht hi hz;go_loopw [14,4] (fun i r wr=>∃ k:Nat,4*k<=len/\i=.int .i64 k/\r=.int .u32 (crc 4294967295 (xs.take (4*k)):Nat)/\SumW w wr g) (fun i _ _=>len / 4-(intOf i).toNat)
 case atStart=>exact ⟨0,by omega,rfl,rfl,hst⟩
 case round =>
  clear hst;obtain ⟨k,hk,rfl,rfl,hS⟩:=hrel;have hrb:=aIp xs hby.out (4*k);obtain ⟨r,HR⟩:∃ r,Hid (crc 4294967295 (xs.take (4*k))=r):=⟨_,rfl⟩;rw [HR.o] at hrb ⊢;have HS:Hid (SumW w wr g):=hS;clear hS;by_cases hlt:4*k+4<=len
  ·have hlt':(k:Int)<(len:Int) / 4:=by omega
   have c0:Hid (w.cell? ⟨b,o+4*k,none⟩=some (.int .u8 (xs.getD (4*k) 0:Nat))):=HC.o _ (by omega);have c1:Hid (w.cell? ⟨b,o+4*k+1,none⟩=some (.int .u8 (xs.getD (4*k+1) 0:Nat))):=by have:=HC.o (4*k+1) (by omega);rw [<-Nat.add_assoc] at this;exact this
   have c2:Hid (w.cell? ⟨b,o+4*k+2,none⟩=some (.int .u8 (xs.getD (4*k+2) 0:Nat))):=by have:=HC.o (4*k+2) (by omega);rw [<-Nat.add_assoc] at this;exact this
   have c3:Hid (w.cell? ⟨b,o+4*k+3,none⟩=some (.int .u8 (xs.getD (4*k+3) 0:Nat))):=by have:=HC.o (4*k+3) (by omega);rw [<-Nat.add_assoc] at this;exact this
   have HN:Hid (crc 4294967295 (xs.take (4*(k+1)))=shn 32 (r ^^^ (xs.getD (4*k) 0 ^^^ (256*xs.getD (4*k+1) 0) ^^^ (65536*xs.getD (4*k+2) 0) ^^^ (16777216*xs.getD (4*k+3) 0)))):=by
    have:=crc_take4 4294967295 xs k (by rw [hlen.out];omega);rw [HR.o] at this;exact this
   have b0:=aEt hby.out (4*k);have b1:=aEt hby.out (4*k+1);have b2:=aEt hby.out (4*k+2);have b3:=aEt hby.out (4*k+3);generalize xs.getD (4*k) 0=x0 at *
   generalize xs.getD (4*k+1) 0=x1 at *
   generalize xs.getD (4*k+2) 0=x2 at *
   generalize xs.getD (4*k+3) 0=x3 at *
   have hx:x0 ^^^ 256*x1 ^^^ 65536*x2 ^^^ 16777216*x3<4294967296 :=
    Nat.xor_lt_two_pow (n:=32) (Nat.xor_lt_two_pow (Nat.xor_lt_two_pow (by omega) (by omega)) (by omega)) (by omega)
   have hbel:=HS.o.below;go_wp2_with fail;refine (word_any b (o+4*k) _ _ x0 x1 x2 x3 _ (by omega) ?_ ?_ ?_ ?_ b0 b1 b2 b3).mono ?_
   ·rw [hbel.cell hbl];exact c0.out
   ·rw [hbel.cell hbl];exact c1.out
   ·rw [hbel.cell hbl];exact c2.out
   ·rw [hbel.cell hbl];exact c3.out
   generalize x0 ^^^ 256*x1 ^^^ 65536*x2 ^^^ 16777216*x3=y at *
   rintro e w2 ⟨rfl,n2,rfl⟩;have hxr:=u32_xor_nat r y hrb hx;have hb:=Nat.xor_lt_two_pow (n:=32) hrb hx;clear hbel;go_wp2_with fail;refine (past_any g (r ^^^ y) _ hb (fun j=>tab.getD j 0) (fun j hj=>(HS.o.drewN n2).cells j hj)).mono ?_;rw [past_eq _ hb];rintro e w3 ⟨rfl,n3,rfl⟩;have HS3:Hid (SumW w (wr.drewN (n2+n3)) g):=HS.o.drewN (n2+n3);go_wp2;go_roundw
   case rel=>exact ⟨k+1,by omega,by go_num,by rw [HN.o],HS3.o⟩
   case measure=>simp [intOf];omega
  ·have hlt':¬ (k:Int)<(len:Int) / 4:=by omega
   obtain rfl:k=len / 4:=by omega
   by_cases hce:cap=4*(len / 4)
   ·have hll:len=4*(len / 4):=by omega
    have HX:Hid (xs.take (4*(len / 4))=xs):=List.take_of_length_le (by rw [hlen.out];omega);have hd0:len-4*(len / 4)=0:=by omega
    clear hll;go_wp2_with fail;go_loopw [31,4] (fun i q wx=>i=.int .i64 0/\q=.int .u32 r/\wr=wx) (fun _ _ _=>0)
    case atStart=>exact ⟨rfl,rfl,rfl⟩
    case round =>
     obtain ⟨rfl,rfl,rfl⟩:=hrel;have HE:Hid (bits .xor .u32 IntKind.u32.max (r:Int)=((4294967295-crc 4294967295 xs:Nat):Int)):=by
      have:=not_u32 r hrb;rw [<-HR.o,HX.o] at this;rw [<-HR.o,HX.o];exact this
     go_wp2;go_ret;exact ⟨aD0 HE.o,HS.o.below⟩
   ·have hce':¬ 4*(len / 4)=cap:=fun h=>hce h.symm
    go_wp2_with fail;go_loopw [31,4] (fun i q wx=>∃ j:Nat,4*(len / 4)+j<=len/\i=.int .i64 j/\q=.int .u32 (crc 4294967295 (xs.take (4*(len / 4)+j)):Nat)/\SumW w wx g) (fun i _ _=>len-4*(len / 4)-(intOf i).toNat)
    case atStart=>exact ⟨0,by omega,rfl,by rw [Nat.add_zero,HR.o],HS.o⟩
    case round =>
     clear HR HS hrb;obtain ⟨j,hj,rfl,rfl,hS⟩:=hrel;have hrb:=aIp xs hby.out (4*(len / 4)+j);obtain ⟨r,HR⟩:∃ r,Hid (crc 4294967295 (xs.take (4*(len / 4)+j))=r):=⟨_,rfl⟩;rw [HR.o] at hrb ⊢;have HS:Hid (SumW w wr g):=hS;clear hS;by_cases hjl:4*(len / 4)+j<len
     ·have hjl':(j:Int)<((len-4*(len / 4):Nat):Int):=by omega
      have cc:wr.cell? ⟨b,o+4*(len / 4)+j,none⟩=some (.int .u8 (xs.getD (4*(len / 4)+j) 0:Nat)):=by
       rw [HS.o.below.cell hbl,Nat.add_assoc];exact HC.o _ hjl
      have hcb:=aEt hby.out (4*(len / 4)+j);have HN:Hid (crc 4294967295 (xs.take (4*(len / 4)+(j+1)))=stepB r (xs.getD (4*(len / 4)+j) 0)):=by
       have:=crc_take1 4294967295 xs (4*(len / 4)+j) (by rw [hlen.out];exact hjl);rw [HR.o] at this;exact this
      generalize xs.getD (4*(len / 4)+j) 0=c at *
      have hx:=u32_xor_nat r c hrb (by omega);have hb:=Nat.xor_lt_two_pow (n:=32) hrb (show c<2 ^ 32 by omega);go_wp2_with fail;go_loopw [39,4] (fun i q wx=>∃ t:Nat,t<=8/\i=.int .i64 t/\q=.int .u32 (shn t (r ^^^ c):Nat)/\wr=wx) (fun i _ _=>8-(intOf i).toNat)
      case atStart=>exact ⟨0,by omega,rfl,rfl,rfl⟩
      case round =>
       obtain ⟨t,ht,rfl,rfl,rfl⟩:=hrel;have hqb:=shn_lt t hb;obtain ⟨q,HQ⟩:∃ q,Hid (shn t (r ^^^ c)=q):=⟨_,rfl⟩;rw [HQ.o] at hqb ⊢;have HQ2:Hid (shn (t+1) (r ^^^ c)=sh q):=by rw [shn_succ,HQ.o];exact rfl
       by_cases ht8:t<8
       ·go_wp2_with (go_at_call 248;refine (shift_any _ _ hqb).mono ?_;rintro e w' ⟨rfl,rfl⟩);go_roundw
        case rel=>exact ⟨t+1,by omega,by go_num,by rw [HQ2.o],trivial⟩
        case measure=>simp [intOf];omega
       ·obtain rfl:t=8:=by omega
        go_wp2;go_roundw
        case rel=>exact ⟨j+1,by omega,by go_num,by rw [HN.o,<-HQ.o];rfl,HS.o⟩
        case measure=>simp [intOf];omega
     ·have hjl':¬ (j:Int)<((len-4*(len / 4):Nat):Int):=by omega
      have HX:Hid (xs.take (4*(len / 4)+j)=xs):=List.take_of_length_le (by rw [hlen.out];omega);have HE:Hid (bits .xor .u32 IntKind.u32.max (r:Int)=((4294967295-crc 4294967295 xs:Nat):Int)):=by
       have:=not_u32 r hrb;rw [<-HR.o,HX.o] at this;rw [<-HR.o,HX.o];exact this
      go_wp2;go_ret;exact ⟨aD0 HE.o,HS.o.below⟩
theorem sum_zero (a:Option Addr) (cap:Nat) (w:World) :
  Calls prog 244 #[.slice a 0 cap] w fun e w'=>e=.returned (.int .u32 0)/\Below w.heap.size w w':=by
 have hz:=aGb;have hi:(prog.info? 369).map (·.size)=some tabV.size:=by rw [aFb];exact info48
 go_enter func244,ntmps244;go_wp2_with fail;refine (aFr _).mono ?_;rintro e w1 ⟨rfl,hb1⟩;have ht:=aJm (heap_alloc_new w1 (.cells z128 369));go_wp2_with (refine wpList_store_mid rfl 369 _ _ rfl w1.heap.size 0 tabV rfl rfl ht hi aJn ?_);have hst:=(SumW.start hb1).below;generalize w1.heap.size=g at hst ⊢;generalize (w1.alloc (.cells z128 369)).setCells g 0 tabV.toList=wx at *
 clear ht hi hz hb1;go_loopw [14,4] (fun i r wr=>i=.int .i64 0/\r=.int .u32 4294967295/\wx=wr) (fun _ _ _=>0)
 case atStart=>exact ⟨rfl,rfl,rfl⟩
 case round =>
  obtain ⟨rfl,rfl,rfl⟩:=hrel
  cases a with
  | none =>
   go_wp2_with fail;go_loopw [31,4] (fun i r wr=>i=.int .i64 0/\r=.int .u32 4294967295/\wx=wr) (fun _ _ _=>0)
   case atStart=>exact ⟨rfl,rfl,rfl⟩
   case round =>
    obtain ⟨rfl,rfl,rfl⟩:=hrel;go_wp2;go_ret;exact ⟨aD0 (by decide),hst⟩
  | some x =>
   go_wp2_with fail;go_loopw [31,4] (fun i r wr=>i=.int .i64 0/\r=.int .u32 4294967295/\wx=wr) (fun _ _ _=>0)
   case atStart=>exact ⟨rfl,rfl,rfl⟩
   case round =>
    obtain ⟨rfl,rfl,rfl⟩:=hrel;go_wp2;go_ret;exact ⟨aD0 (by decide),hst⟩
theorem sum_any (a:Option Addr) (len cap:Nat) (xs:List Nat) (w:World) (h:BS w a len cap xs) :
  Calls prog 244 #[.slice a len cap] w fun e w'=>e=.returned (.int .u32 (4294967295-crc 4294967295 xs:Nat))/\Below w.heap.size w w':=by
 rcases Nat.eq_zero_or_pos len with h0 | h0
 ·have hx:xs=[]:=List.eq_nil_of_length_eq_zero (by have:=h.hlen;omega);subst hx h0;exact sum_zero a cap w
 ·obtain ⟨b,o,rfl,hb,hc⟩:=h.place h0;exact sum_pos b o len cap xs w h h0 hb hc
end Go.Proofs.YtdpdjpkmndnaaaaGreat
set_option linter.unusedVariables false
namespace Go.Proofs.YtdpdjpkmndnaaaaGreat
open Go.RowKit Tryz
variable {Q:Exit->Act->World->Prop} {cap g len o:Nat} {ops:Array Oper} {rest:List Oper} {w:World} {xs:List Nat}
theorem aBg {o:Oper} {a:Act} (hgd:o.guard=none) (s x:Operand)
  (ho:o.op=.call { callee:=.builtin .append,args:=#[s,x],argTypes:=#[97,97] })
  (base:Nat) (v:Value) (n:Nat) (xs:List Nat) (hs:a.eval s=v) (hown:w.ownsRow base 5 1 v n (cellsOf xs)) (ax:Option Addr) (m cx:Nat) (ys:List Nat)
  (hx:a.eval x=.slice ax m cx) (hbs:BS w ax m cx ys) (hsize:n+m<=140737488355328) (w0:World) (hbel:Below base w0 w) (hbase:base<=w.heap.size)
  (h:∀ v' w',w'.ownsRow base 5 1 v' (n+m) (cellsOf (xs++ys))->Below base w0 w'->base<=w'.heap.size->wpList prog ops Q rest (a.put o.dst v') w'):wpList prog ops Q (o::rest) a w:=by
 obtain ⟨i0,hi,hz0,hz1,hz2⟩:=info_parts aFw;have hl:=hbs.hlen
 cases ax with
 | none =>
  have hc:=hbs.hnil rfl;have hcap:=hbs.hcap;obtain rfl:cx=0:=hc;obtain rfl:m=0:=by omega
  have hy:ys=[]:=List.eq_nil_of_length_eq_zero hl;subst hy;refine wpList_append_own_none hgd s x _ ho base 5 i0 1 underlying97 hi v n (cellsOf xs) hs hown hx (h v w ?_ hbel hbase);simpa using hown
 | some ad =>
  refine wpList_append_own _ hgd s x _ ho base 5 i0 (.int .u8 0) 1 1 underlying97 hi hz0 hz1 hz2 rfl (by omega) v n (cellsOf xs) hs hown ad m cx (cellsOf ys) hx (by rw [aAl];omega) hbs.news (aA4 ys) (by unfold maxLen;omega) (by omega) hbase ?_;intro v' w' ho' hg' _;rw [<-aAy] at ho';exact h v' w' ho' (hbel.grown hg' hbase (fun k hk=>(hown.lt k hk).1)) (nT hbase hg'.size)
def sumL (xs:List Nat):Nat:=4294967295-crc 4294967295 xs
theorem sumL_lt (xs:List Nat):sumL xs<4294967296:=by unfold sumL;omega
def contentP (b:List Nat):List Nat:=ord b.length 2++b
def laidP (b:List Nat):List Nat:=ord (sumL ((pad (contentP b)).take 8188)) 4++contentP b
theorem aGu (b:List Nat):(contentP b).length=b.length+2:=by rw [contentP,lA,aD3];omega
theorem laidP_len (b:List Nat):(laidP b).length=b.length+6:=by rw [laidP,lA,aD3,aGu];omega
theorem aIr {b:List Nat} (h:∀ c∈b,c<256):∀ c∈contentP b,c<256:=by
 intro c hc;rcases List.mem_append.1 hc with h1 | h1
 ·exact aGs _ _ c h1
 ·exact h c h1
theorem laidP_lt {b:List Nat} (h:∀ c∈b,c<256):∀ c∈laidP b,c<256:=by
 intro c hc;rcases List.mem_append.1 hc with h1 | h1
 ·exact aGs _ _ c h1
 ·exact aIr h c h1
theorem aCb (a:Option Addr) (len cap:Nat) (xs:List Nat) (w:World) (h:BS w a len cap xs) (hl:len<=blk) :
  Calls prog 213 #[.slice a len cap] w fun e w'=>e=.returned (.slice (some ⟨w.heap.size,0,none⟩) blk blk)/\w'.ownsRow w.heap.size 5 1 (.slice (some ⟨w.heap.size,0,none⟩) blk blk) blk (cellsOf (pad xs))/\Below w.heap.size w w':=by
 obtain ⟨i0,hi,hz0,hz1,hz2⟩:=info_parts aFw;have H:=zH h;have HL:=zH h.hlen;have HM:=zH (aEh blk);have HPL:=zH (aJ4 (xs:=xs) (by rw [h.hlen];exact hl));have HSP:=zH (aI4 xs);have HB8:Hid (blk=8192):=rfl;have HB9:Hid (((blk:Nat):Int)=8192):=rfl;generalize blk=N at *
 clear h;go_enter func213,ntmps213
 go_wp2_with (first
  | (refine wpList_make_full w rfl _ _ 97 rfl w.heap.size 5 i0 (.int .u8 0) 1 underlying97 hi hz0 hz1 .i64 .i64 8192 8192 N rfl rfl (HB9.o.symm) (HB9.o.symm) (by rw [hz2,HB8.o];decide) (by rw [HB8.o];unfold maxLen;omega) (nR _) ?_;intro w1 ho1 hg1;rw [HM.o] at ho1;have HO1:=zH ho1;have HG1:=zH ((Below.refl w.heap.size w).grown hg1 (nR _) (fun k hk=>by cases hk));clear ho1 hg1)
  | (refine wpList_copy_splice rfl (.tmp 5) (.tmp 6) 97 97 rfl 5 underlying97 (by rw [hi];simp [hz1]) _ _ N N len cap rfl rfl w.heap.size 0 (cellsOf (zs N)) 5 (aFl HO1.o).1 (cellsOf xs) (by rw [aAl,HL.o];exact (Nat.min_eq_left hl).symm) (fun h=>⟨rfl,bs_src (H.out.later HG1.o (Nat.le_refl _)) h⟩) (by rw [aAl,aAl,aI0,HL.o];omega) (aA4 xs) w.heap.size w HG1.o (Nat.le_refl _) ?_;intro w2 HR2 hb2;rw [HSP.o] at HR2;have HB2:=zH hb2;clear hb2))
 go_ret;refine ⟨rfl,aHh HR2.o (nR _) ?_ (by rw [HB8.o];unfold maxLen;omega),HB2.o⟩;rw [HPL.o]
theorem plaid_any (a:Option Addr) (len cap:Nat) (xs:List Nat) (w:World) (h:BS w a len cap xs) (hl:len<=8186) :
  Calls prog 241 #[.slice a len cap] w fun e w'=>∃ v,e=.returned v/\w'.ownsRow w.heap.size 5 1 v (laidP xs).length (cellsOf (laidP xs))/\Below w.heap.size w w':=by
 have HL:=zH h.hlen;have H:=zH h;have HX:=zH h.hbyte;have HCL:=zH (aGu xs);have HCB:=zH (aIr h.hbyte);have HCE:Hid (contentP xs=ord len 2++xs):=by show _=_;rw [contentP,HL.o]
 have HPE:Hid (laidP xs=ord (sumL ((pad (contentP xs)).take 8188)) 4++contentP xs):=rfl;have HPL:=zH (laidP_len xs);clear h;generalize laidP xs=P at *
 go_enter func241,ntmps241;go_wp2_with fail;refine (aDg len 2 w (by omega) (by omega)).mono ?_;rintro e w1 ⟨rfl,ho1,hb1⟩;have HO1:=zH ho1;have HB1:=zH hb1;clear ho1 hb1;go_wp2_with (refine aBg rfl (.tmp 8) (.tmp 9) rfl w.heap.size _ 2 (ord len 2) rfl HO1.o a len cap xs rfl (H.out.later HB1.o (nR _)) (by omega) w HB1.o HB1.o.size ?_;intro v2 w2 ho2 hb2 hs2;rw [<-HCE.o] at ho2;obtain ⟨a2,c2,rfl,B2⟩:=aJk (xs:=contentP xs) (by rw [HCL.o,HL.o,Nat.add_comm];exact ho2) (by rw [HCL.o,HL.o];omega) HCB.o;have HB2:=zH hb2;have HBS2:=zH B2;clear ho2 hb2 B2);go_wp2_with fail;refine (aCb a2 _ c2 (contentP xs) w2 HBS2.o (by rw [HCL.o,HL.o];unfold blk;omega)).mono ?_;rintro e w3 ⟨rfl,ho3,hb3⟩;have HPD:=zH (aJ4 (xs:=contentP xs) (by rw [HCL.o,HL.o];unfold blk;omega));have HB3:=zH (HB2.o.trans (hb3.mono hs2));have HBS3:=zH (HBS2.o.later hb3 (nR _));have HBW:=zH (bs_take (BS.ofOwns ho3 (by unfold blk;omega) (aHv HCB.o)) 8188 (by unfold blk;omega));have b8:((blk:Nat):Int)=8192:=rfl;have HS3:=zH (nT hs2 hb3.size);clear ho3 hb3;generalize hp8:(pad (contentP xs)).take 8188=P8 at *
 generalize blk=N at *
 go_wp2_with fail;refine (sum_any _ 8188 _ P8 w3 HBW.o).mono ?_;rintro e w4 ⟨rfl,hb4⟩;have HSM:Hid (4294967295-crc 4294967295 P8=sumL P8):=rfl;rw [HSM.o];have HSL:=sumL_lt P8;have HB4:=zH (HB3.o.trans (hb4.mono HS3.o));have HBS4:=zH (HBS3.o.later hb4 (nR _));have HS4:=zH (nT HS3.o hb4.size);clear hb4;generalize sumL P8=S at *
 go_wp2_with fail;refine (aDg S 4 w4 (by omega) (by omega)).mono ?_;rintro e w5 ⟨rfl,ho5,hb5⟩;have HO5:=zH (aFn ho5 HS4.o);have HB5:=zH (HB4.o.trans (hb5.mono HS4.o));have HBS5:=zH (HBS4.o.later hb5 (nR _));have HS5:=zH (nT HS4.o hb5.size);clear ho5 hb5;go_wp2_with (refine aBg rfl (.tmp 17) (.tmp 18) rfl w.heap.size _ 4 (ord S 4) rfl HO5.o a2 _ c2 (contentP xs) rfl HBS5.o (by rw [HCL.o,HL.o];omega) w HB5.o HS5.o ?_;intro v6 w6 ho6 hb6 hs6;rw [<-HPE.o] at ho6;have HO6:=zH ho6;have HB6:=zH hb6;clear ho6 hb6);go_ret;have e:P.length=4+(contentP xs).length:=by rw [HPL.o,HCL.o];omega
 refine ⟨_,rfl,?_,HB6.o⟩;rw [e];exact HO6.o
def pageOf (xs:List Nat):Option (List Nat):=if 8186<ordN ((xs.drop 4).take 2) then none else if xs=pad (laidP ((xs.drop 6).take (ordN ((xs.drop 4).take 2)))) then some ((xs.drop 6).take (ordN ((xs.drop 4).take 2))) else none
theorem bs_sub (h:BS w (some ⟨g,o,none⟩) len cap xs) (p k:Nat) (hp:p+k<=len):BS w (some ⟨g,o+p,none⟩) k (cap-p) ((xs.drop p).take k):=by
 have h1:=h.hlen;have h2:=h.hcap;have h3:=h.hroom;have h4:=h.hmax;refine BS.of (by rw [List.length_take,List.length_drop];omega) (by omega) (by omega) (by omega) (fun n hn=>h.hbyte n (List.mem_of_mem_drop (List.mem_of_mem_take hn))) (fun i hi=>?_);have:=h.hcell _ rfl (p+i) (by omega);rw [add_plain,<-Nat.add_assoc] at this;rw [this]
 congr 3
 simp only [List.getD_eq_getElem?_getD];rw [List.getElem?_take_of_lt hi,List.getElem?_drop]
theorem bytesOf_any (g:Nat) (xs:List Nat) (w:World) (h:BS w (some ⟨g,0,none⟩) blk blk xs) :
  Calls prog 232 #[.slice (some ⟨g,0,none⟩) blk blk] w fun e w'=>(match pageOf xs with | none=>e=.returned (.tuple #[.slice none 0 0,.int .i64 22]) | some b=>∃ v,e=.returned (.tuple #[v,.int .i64 0])/\w'.ownsRow w.heap.size 5 1 v b.length (cellsOf b))/\Below w.heap.size w w':=by
 have H:=zH h;have HS:=zH (bs_sub h 4 2 (by unfold blk;omega));have HBL:=zH (bs_sub h 6);have HXL:=zH h.hlen;have HP:Hid (pageOf xs=if 8186<ordN ((xs.drop 4).take 2) then none else if xs=pad (laidP ((xs.drop 6).take (ordN ((xs.drop 4).take 2)))) then some ((xs.drop 6).take (ordN ((xs.drop 4).take 2))) else none):=rfl;have b8:((blk:Nat):Int)=8192:=rfl;have HB8:Hid (blk=8192):=rfl;clear h;generalize pageOf xs=R at *
 go_enter func232,ntmps232;generalize hN:blk=N at *
 have HN:=zH hN;clear hN;go_wp2_with fail;refine (aBx _ 2 _ _ w HS.o (by omega)).mono ?_;rintro e w1 ⟨rfl,rfl⟩;have hnl:ordN ((xs.drop 4).take 2)<65536:=by
  have h1:=aHw HS.o.hbyte 2 (by rw [HS.o.hlen];exact nR _);rw [List.take_of_length_le (by rw [HS.o.hlen];exact nR _)] at h1;exact h1
 generalize ordN ((xs.drop 4).take 2)=n at *
 by_cases h1:8186<n
 ·have d1:(8186:Int)<(n:Int):=by omega
  rw [if_pos h1] at HP;obtain rfl:R=none:=HP.o;clear h1 HP;go_wp2;go_ret2;exact ⟨rfl,Below.refl _ _⟩
 ·have d1:¬ (8186:Int)<(n:Int):=by omega
  rw [if_neg h1] at HP;have HBB:=zH (HBL.o n (by rw [HB8.o];omega));have HBC:=zH HBB.o.hlen;generalize (xs.drop 6).take n=b at *
  clear h1;go_wp2_with fail;refine (plaid_any _ n _ b w1 HBB.o (by omega)).mono ?_;rintro e w2 ⟨v2,rfl,ho2,hb2⟩;have HPL:=zH (laidP_len b);have HPB:=zH (laidP_lt HBB.o.hbyte);obtain ⟨a2,c2,rfl,B2⟩:=aJk ho2 (by rw [HPL.o,HBC.o];omega) HPB.o;have HBS2:=zH B2;have HB2:=zH hb2;clear ho2 hb2 B2;go_wp2_with fail;refine (aCb a2 _ c2 (laidP b) w2 HBS2.o (by rw [HPL.o,HBC.o,HN.o,HB8.o];omega)).mono ?_;rintro e w3 ⟨rfl,ho3,hb3⟩;have HB3:=zH (HB2.o.trans (hb3.mono HB2.o.size));have HBS3:=zH (BS.ofOwns ho3 (by rw [HN.o,HB8.o];omega) (aHv HPB.o));have HX3:=zH (H.out.later HB3.o (nR _));have HB3B:=zH (HBB.o.later HB3.o (nR _));clear ho3 hb3;by_cases h2:xs=pad (laidP b)
  ·rw [if_pos h2] at HP;obtain rfl:R=some b:=HP.o;have HEQ:=zH (aCj _ _ _ _ _ _ xs (pad (laidP b)) w3 HX3.o HBS3.o);rw [decide_eq_true h2] at HEQ;clear HP;clear h2;go_wp2_with fail;refine HEQ.o.mono ?_;rintro e w4 ⟨rfl,rfl⟩;go_wp2_with fail;refine (aB6 _ _ _ b w4 HB3B.o).mono ?_;rintro e w5 ⟨v5,rfl,ho5,hb5⟩;have HO5:=zH (aFn ho5 HB3.o.size);have HB5:=zH (HB3.o.trans (hb5.mono HB3.o.size));clear ho5 hb5;go_wp2;go_ret2;exact ⟨⟨_,rfl,HO5.o⟩,HB5.o⟩
  ·rw [if_neg h2] at HP;obtain rfl:R=none:=HP.o;have HEQ:=zH (aCj _ _ _ _ _ _ xs (pad (laidP b)) w3 HX3.o HBS3.o);rw [decide_eq_false h2] at HEQ;clear HP;clear h2;go_wp2_with fail;refine HEQ.o.mono ?_;rintro e w4 ⟨rfl,rfl⟩;go_wp2;go_ret2;exact ⟨rfl,HB3.o⟩
end Go.Proofs.YtdpdjpkmndnaaaaGreat
