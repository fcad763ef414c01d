import Derived.Test.YtdpdjpkmndnaaaaGreatYb1
import Derived.Test.YtdpdjpkmndnaaaaGreatYb7
import Derived.Deep.MidRow
import Derived.Outline
set_option maxRecDepth 100000
set_option maxHeartbeats 16000000
namespace Go.Proofs.YtdpdjpkmndnaaaaGreat
open Go.RowKit _root_.Go.Proofs.Tryz
variable {b:Nat} {fn:Func} {w wr:World}
def bH0:Array Value:=Array.replicate 128 (.int .u32 0)
theorem aGn (w:World):(zeroValue 369).run prog w=.ok (.agg bH0) w:=by kernel_rfl
def bSn (n:Nat):Value:=.int .u32 (n:Int)
def t1:Nat->Array Nat
 | 0=>Array.replicate 128 0
 | k+1=>(t1 k).setIfInBounds ((31-k) / 4*16+2 ^ ((31-k) % 4)) (shn k 2197175160)
def bRb (v:Nat):Nat:=[0,1,2,1,4,1,2,1,8,1,2,1,4,1,2,1].getD v 0
def t2:Nat->Array Nat
 | 0=>t1 32
 | m+1=>(t2 m).setIfInBounds (m / 16*16+m % 16) ((t2 m).getD (m / 16*16+(m % 16-bRb (m % 16))) 0 ^^^ (t2 m).getD (m / 16*16+bRb (m % 16)) 0)
def tab:Array Nat:=t2 128
def tabV:Array Value:=tab.map bSn
theorem bTb:∀ v:Fin 16,bits .and .i64 (v.val:Int) (-(v.val:Int))=(bRb v.val:Int):=by decide +kernel
theorem bTa:∀ v:Fin 16,bRb v.val<=v.val:=by decide +kernel
structure Tab (w wr:World) (ns:Array Nat):Prop where
 size:wr.heap.size=w.heap.size+2
 below:Below w.heap.size w wr
 first:wr.heap[w.heap.size]?=some (.cells bH0 369 (0,0))
 second:wr.heap[w.heap.size+1]?=some (.cells (ns.map bSn) 369 (0,0))
 full:ns.size=128
 small:∀ n∈ns,n<4294967296
theorem Tab.numAt {ns:Array Nat} (h:Tab w wr ns) (j:Nat):ns.getD j 0<4294967296:=by
 unfold Array.getD;split
 ·exact h.small _ (by simp)
 ·decide
theorem Tab.cell {ns:Array Nat} (h:Tab w wr ns) (j:Nat) (hj:j<128):wr.cell? ⟨w.heap.size+1,j,none⟩=some (.int .u32 (ns.getD j 0:Nat)):=by
 have:=h.full;simp [World.cell?,h.second,Array.getD,this,hj,bSn]
theorem Tab.frozen {ns:Array Nat} (h:Tab w wr ns) (j:Nat):wr.frozen? ⟨w.heap.size+1,j,none⟩=false:=by
 simp [World.frozen?,h.second]
theorem Tab.drew {ns:Array Nat} (h:Tab w wr ns):Tab w wr.drew ns:=⟨h.size,h.below.drew,h.first,h.second,h.full,h.small⟩
theorem Tab.set {ns:Array Nat} (h:Tab w wr ns) (j:Nat) (n:Nat) (hn:n<4294967296):Tab w (wr.setCell ⟨w.heap.size+1,j,none⟩ (.int .u32 n)) (ns.setIfInBounds j n):=by
 have hs:=h.size;have hf:=h.full;refine ⟨by simpa using hs,h.below.setCell (by simp) _,?_,?_,by simpa using hf,fun x hx=>?_⟩
 ·rw [heap_setCell_other _ _ _ _ (by simp)];exact h.first
 ·have:=heap_setCell_same _ _ j _ _ (.int .u32 (n:Int)) h.second;rw [this,Array.map_setIfInBounds];rfl
 ·rcases Array.mem_or_eq_of_mem_setIfInBounds hx with hx | hx
  ·exact h.small x hx
  ·omega
theorem Tab.start (w:World):Tab w ((w.alloc (.cells bH0 369)).alloc (.cells bH0 369)) (t1 0):=by
 refine ⟨by simp,((kBh _ _).alloc (Nat.le_refl _) _).alloc (by simp) _,heap_alloc2_old _ _ _,?_,by simp [t1],fun x hx=>?_⟩
 ·rw [heap_alloc2_new,t1,Array.map_replicate];rfl
 ·simp [t1] at hx;omega
theorem bKx:(prog.info? 369).map (·.size)=some 128:=by kernel_rfl
theorem aHa {P:Program} {p:Tmp} {ty:TypeId} (h:fn.results=#[.cell p ty]) (tmps:Array Value) (w:World) (b:Nat) (cs:Array Value) (d:TypeDesc)
  (hp:tmps.getD p undef=.pointer (some ⟨b,0,none⟩)) (hc:w.rangeAt b 0 cs.toList) (hu:P.underlying ty=some d) (hd:d.isRow=true) (hi:(P.info? ty).map (·.size)=some cs.size) :
  (results fn tmps).run P w=.ok (.agg cs) w:=by
 have hp':tmps[p]?.getD undef=.pointer (some ⟨b,0,none⟩):=by simpa using hp
 simp [results,h,hp',asAddr,run_loadVar_mid w b 0 ty cs.toList d hc hu hd (by simpa using hi)]
theorem below_setCells {B:Nat} {a:World} {b:Nat} (hb:B<=b):∀ (vs:List Value) (o:Nat) (w:World),Below B a w->Below B a (w.setCells b o vs)
 | [],_,_,h=>h
 | v::vs,o,_,h=>below_setCells hb vs (o+1) _ (h.setCell (p:=⟨b,o,none⟩) hb v)
theorem aJx:tabV.all (·.oneCell')=true:=by
 unfold tabV;rw [Array.all_map];exact Array.all_eq_true_iff_forall_mem.2 (fun v _=>rfl)
theorem bE3:tab.size=128:=by decide +kernel
theorem aFj:tabV.size=128:=by unfold tabV;rw [Array.size_map];exact bE3
theorem aJw (h:w.heap[b]?=some (.cells bH0 369 (0,0))):w.there b 0 tabV.size:=by
 intro j hj;have:j<128:=by rw [aFj] at hj;exact hj
 exact ⟨by simp [World.cell?,h,bH0,this],by simp [World.frozen?,h]⟩
theorem aF0 (w:World) :
  Calls prog 245 #[] w fun e w'=>e=.returned (.agg tabV)/\Below w.heap.size w w':=by
 have hz:=aGn;go_enter func245,ntmps245;go_wp2;go_loopw [8,2] (fun i r wr=>∃ k:Nat,k<=32/\i=.int .i64 k/\r=.int .u32 (shn k 2197175160:Nat)/\Tab w wr (t1 k)) (fun i _ _=>32-(intOf i).toNat)
 case atStart=>exact ⟨0,by omega,rfl,rfl,Tab.start w⟩
 case round =>
  obtain ⟨k,hk,rfl,rfl,hT⟩:=hrel;have hrb:=bIr k (r:=2197175160) (by decide);obtain ⟨r,HR⟩:∃ r,Hid (shn k 2197175160=r):=⟨_,rfl⟩;rw [HR.o] at hrb ⊢;by_cases hk32:k<32
  ·have d1:(0:Int)<=(31-(k:Int)) / 4:=by omega
   have d2:(31-(k:Int)) / 4<8:=by omega
   obtain ⟨v,HV,hv⟩:∃ v:Nat,Hid (2 ^ ((31-k) % 4)=v)/\v<16:=⟨_,rfl,by
    have:2 ^ ((31-k) % 4)<=2 ^ 3:=kA9 (by decide) (by omega)
    omega⟩
   have hv2:wrap64 (2 ^ ((31-k) % 4))=(v:Int):=by
    have e:(2:Int) ^ ((31-k) % 4)=(v:Int):=by rw [<-HV.o];simp
    rw [e];unfold wrap64;omega
   have hv3:(v:Int)<16:=by omega
   have hcc:=hT.cell ((31-k) / 4*16+v) (by omega);have hff:=hT.frozen ((31-k) / 4*16+v);have HT3:Hid (Tab w (wr.setCell ⟨w.heap.size+1,(31-k) / 4*16+v,none⟩ (.int .u32 r)).drew (t1 (k+1))):=by
    show Tab _ _ ((t1 k).setIfInBounds ((31-k) / 4*16+2 ^ ((31-k) % 4)) (shn k 2197175160));rw [HV.o,HR.o];exact (hT.set ((31-k) / 4*16+v) r hrb).drew
   have HS:Hid (shn (k+1) 2197175160=sh r):=by rw [bE8,HR.o];exact rfl
   clear hT;go_wp2;go_region;go_wp2_with (go_at_call 248;refine (bB8 _ _ hrb).mono ?_;rintro e w' ⟨rfl,rfl⟩);go_roundw
   case rel=>exact ⟨k+1,by omega,by go_num,by rw [HS.o],HT3.o⟩
   case measure=>simp [intOf];omega
  ·obtain rfl:k=32:=by omega
   clear HR hrb;go_wp2;go_loopw [24] (fun i wr=>∃ k:Nat,k<=8/\i=.int .i64 k/\Tab w wr (t2 (16*k))) (fun i _=>8-(intOf i).toNat)
   case atStart=>exact ⟨0,by omega,rfl,hT⟩
   case round =>
    clear hT;obtain ⟨k,hk,rfl,hT⟩:=hrel;by_cases hk8:k<8
    ·go_wp2;go_loopw [27] (fun i wr=>∃ v:Nat,v<=16/\i=.int .i64 v/\Tab w wr (t2 (16*k+v))) (fun i _=>16-(intOf i).toNat)
     case atStart=>exact ⟨0,by omega,rfl,hT⟩
     case round =>
      clear hT;obtain ⟨v,hv,rfl,hT⟩:=hrel;by_cases hv16:v<16
      ·have hl:=bTb ⟨v,hv16⟩;have hle:=bTa ⟨v,hv16⟩;simp only at hl hle;have HM1:Hid ((16*k+v) / 16=k):=by show _=_;omega
       have HM2:Hid ((16*k+v) % 16=v):=by show _=_;omega
       obtain ⟨l,HL⟩:∃ l,Hid (bRb v=l):=⟨_,rfl⟩;rw [HL.o] at hl hle;obtain ⟨x,HX⟩:∃ x,Hid ((t2 (16*k+v)).getD (k*16+(v-l)) 0=x):=⟨_,rfl⟩;obtain ⟨y,HY⟩:∃ y,Hid ((t2 (16*k+v)).getD (k*16+l) 0=y):=⟨_,rfl⟩;have hx:=hT.numAt (k*16+(v-l));have hy:=hT.numAt (k*16+l);have cx:=hT.cell (k*16+(v-l)) (by omega);have cy:=hT.cell (k*16+l) (by omega);have cv:=hT.cell (k*16+v) (by omega);have fv:=hT.frozen (k*16+v);rw [HX.o] at hx cx;rw [HY.o] at hy cy;have hxy:=u32_xor_nat x y hx hy;have hb:=kA8 (n:=32) hx hy;have HT3:Hid (Tab w (wr.setCell ⟨w.heap.size+1,k*16+v,none⟩ (.int .u32 (x ^^^ y:Nat))).drew (t2 (16*k+(v+1)))):=by
        show Tab _ _ ((t2 (16*k+v)).setIfInBounds ((16*k+v) / 16*16+(16*k+v) % 16) ((t2 (16*k+v)).getD ((16*k+v) / 16*16+((16*k+v) % 16-bRb ((16*k+v) % 16))) 0 ^^^ (t2 (16*k+v)).getD ((16*k+v) / 16*16+bRb ((16*k+v) % 16)) 0));rw [HM1.o,HM2.o,HL.o,HX.o,HY.o];exact (hT.set (k*16+v) (x ^^^ y) hb).drew
       clear hT;go_wp2;go_region;go_wp2;go_roundw
       case rel=>exact ⟨v+1,by omega,by go_num,HT3.o⟩
       case measure=>simp [intOf];omega
      ·obtain rfl:v=16:=by omega
       go_wp2;go_roundw
       case rel=>exact ⟨k+1,by omega,by go_num,hT⟩
       case measure=>simp [intOf];omega
    ·obtain rfl:k=8:=by omega
     have hsec:wr.heap[w.heap.size+1]?=some (.cells tabV 369 (0,0)):=hT.second;have hi:(prog.info? 369).map (·.size)=some tabV.size:=by rw [aFj];exact bKx
     have ht:=aJw hT.first
     have hbel:=hT.below;clear hT hz;go_wp2_with (first | (refine wpList_load_row rfl 369 _ rfl (w.heap.size+1) rfl 369 tabV (0,0) _ hsec underlying369 rfl hi ?_) | (refine wpList_store_mid rfl 369 _ _ rfl w.heap.size 0 tabV rfl rfl ht hi aJx ?_));refine bodyPost_ret (v:=.agg tabV) ?_ rfl ⟨rfl,below_setCells (nR _) _ _ _ hbel⟩;have hr:=World.rangeAt_setCells_same wr w.heap.size 0 tabV.toList (by simpa using ht);exact aHa results245 _ _ w.heap.size tabV _ rfl hr underlying369 rfl hi
end Go.Proofs.YtdpdjpkmndnaaaaGreat
namespace Go.Proofs.YtdpdjpkmndnaaaaGreat
open _root_.Go.Proofs.Tryz
theorem bQ7 (k a b:Nat):2 ^ k*(a ^^^ b)=2 ^ k*a ^^^ 2 ^ k*b:=by
 apply Nat.eq_of_testBit_eq;intro i;simp only [Nat.testBit_two_pow_mul,Nat.testBit_xor];by_cases h:i≥k<;>simp [h]
theorem aCj (k m:Nat):shn 32 (2 ^ k*m)=shn 32 (2 ^ k*(m % 16)) ^^^ shn 32 (2 ^ (k+4)*(m / 16)):=by
 have e:m=m % 16 ^^^ 16*(m / 16):=bJ7 4 m;rw [<-aJ1,show 2 ^ (k+4)*(m / 16)=2 ^ k*(16*(m / 16)) by rw [Nat.pow_add];simp [Nat.mul_assoc],<-bQ7,<-e]
theorem bP8:∀ k:Fin 8,∀ v:Fin 16,tab.getD (16*k.val+v.val) 0=shn 32 (2 ^ (4*k.val)*v.val):=by decide +kernel
theorem aGx (k v:Nat) (hk:k<8) (hv:v<16):tab.getD (16*k+v) 0=shn 32 (2 ^ (4*k)*v):=bP8 ⟨k,hk⟩ ⟨v,hv⟩
theorem bIn:∀ j:Fin 128,tab.getD j.val 0<2 ^ 32:=by decide +kernel
theorem bQv (r:Nat) (hr:r<4294967296) :
  tab.getD (r % 16) 0 ^^^ tab.getD (16+r / 16 % 16) 0 ^^^ tab.getD (32+r / 256 % 16) 0 ^^^ tab.getD (48+r / 4096 % 16) 0 ^^^ tab.getD (64+r / 65536 % 16) 0 ^^^ tab.getD (80+r / 1048576 % 16) 0 ^^^ tab.getD (96+r / 16777216 % 16) 0 ^^^ tab.getD (112+r / 268435456) 0=shn 32 r:=by
 have e0:=aGx 0 (r % 16) (by omega) (by omega);have e1:=aGx 1 (r / 16 % 16) (by omega) (by omega);have e2:=aGx 2 (r / 256 % 16) (by omega) (by omega);have e3:=aGx 3 (r / 4096 % 16) (by omega) (by omega);have e4:=aGx 4 (r / 65536 % 16) (by omega) (by omega);have e5:=aGx 5 (r / 1048576 % 16) (by omega) (by omega);have e6:=aGx 6 (r / 16777216 % 16) (by omega) (by omega);have e7:=aGx 7 (r / 268435456) (by omega) (by omega);simp only [Nat.mul_zero,Nat.zero_add,Nat.reduceMul] at e0 e1 e2 e3 e4 e5 e6 e7;rw [e0,e1,e2,e3,e4,e5,e6,e7];have s0:=aCj 0 r;have s1:=aCj 4 (r / 16);have s2:=aCj 8 (r / 256);have s3:=aCj 12 (r / 4096);have s4:=aCj 16 (r / 65536);have s5:=aCj 20 (r / 1048576);have s6:=aCj 24 (r / 16777216);simp only [Nat.div_div_eq_div_mul,Nat.reduceMul,Nat.reduceAdd] at s0 s1 s2 s3 s4 s5 s6;rw [Nat.pow_zero,Nat.one_mul,Nat.one_mul] at s0;rw [s0,s1,s2,s3,s4,s5,s6];simp only [Nat.pow_zero,Nat.one_mul,Nat.xor_assoc]
theorem bT7 (xs:List Nat) (k:Nat) (h:4*k+4<=xs.length) :
  xs.take (4*(k+1))=xs.take (4*k)++[xs.getD (4*k) 0,xs.getD (4*k+1) 0,xs.getD (4*k+2) 0,xs.getD (4*k+3) 0]:=by
 have g:∀ i,i<xs.length->xs.take (i+1)=xs.take i++[xs.getD i 0]:=fun i hi=>by
  rw [List.take_succ_eq_append_getElem hi,kAa,gE hi];rfl
 rw [show 4*(k+1)=4*k+1+1+1+1 by omega,g _ (by omega),g _ (by omega),g _ (by omega),g _ (by omega)];simp
theorem aJq (r:Nat) (xs ys:List Nat):crc r (xs++ys)=crc (crc r xs) ys:=by simp [crc]
theorem bLo (i:Nat) (xs:List Nat) (k:Nat) (h:4*k+4<=xs.length) :
  crc i (xs.take (4*(k+1)))=shn 32 (crc i (xs.take (4*k)) ^^^ (xs.getD (4*k) 0 ^^^ (256*xs.getD (4*k+1) 0) ^^^ (65536*xs.getD (4*k+2) 0) ^^^ (16777216*xs.getD (4*k+3) 0))):=by
 rw [bT7 xs k h,aJq,<-bOu];rfl
theorem bLp (i:Nat) (xs:List Nat) (k:Nat) (h:k<xs.length):crc i (xs.take (k+1))=bBs (crc i (xs.take k)) (xs.getD k 0):=by
 rw [List.take_succ_eq_append_getElem h,aJq,kAa,gE h];rfl
theorem aIx (xs:List Nat) (h:∀ c∈xs,c<256) (k:Nat):crc 4294967295 (xs.take k)<4294967296 :=
 bTx (by decide) _ (fun c hc=>h c (kA2 hc))
end Go.Proofs.YtdpdjpkmndnaaaaGreat
