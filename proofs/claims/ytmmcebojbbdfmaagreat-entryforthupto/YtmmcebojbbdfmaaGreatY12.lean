import Derived.Test.YtmmcebojbbdfmaaGreatY11
import Derived.Outline
import Derived.Deep.OwnRows
set_option maxRecDepth 100000
set_option maxHeartbeats 16000000
namespace Go.Proofs.YtmmcebojbbdfmaaGreat
open Go.RowKit _root_.Go.Proofs.Tryz
theorem aFw:∀ (k i:Nat) (xs:List Nat) (n:Nat),(rdFW k i xs n).2.2=0->i<(rdFW k i xs n).2.1/\(rdFW k i xs n).2.1<=i+xs.length/\(rdFW k i xs n).2.1<=i+k
 | 0,i,xs,n=>by simp [rdFW]
 | k+1,i,[],n=>by simp [rdFW]
 | k+1,i,c::r,n=>by
  rw [aC2]
  split
  ·simp
  ·split
   ·simp
   ·intro h
    have:=aFw k (i+1) r _ h
    simp;omega
theorem ruP_le {xs:List Nat} {p:Int} (h:ruE xs p=0):ruP xs p<=xs.length/\p<ruP xs p/\0<=p:=by
 unfold ruE at h
 split at h
 ·rename_i hp
  have:=aFw 9 0 (xs.drop p.toNat) 0 h;unfold ruP rdNext;rw [if_pos hp,if_pos h];simp only [List.length_drop] at this;unfold rdN;omega
 ·simp at h
def rbE (xs:List Nat) (p most:Int):Nat :=
 if ruE xs p≠0 then ruE xs p else if most<0 then 1 else if most<ruN xs p then 3 else if xs.length<ruP xs p+ruN xs p then 10 else 0
def rbS (xs:List Nat) (p most:Int):List Nat:=if rbE xs p most=0 then (xs.drop (ruP xs p)).take (ruN xs p) else []
def rbP (xs:List Nat) (p most:Int):Nat:=if rbE xs p most=0 then ruP xs p+ruN xs p else 0
theorem hide_bs {w:World} {a:Option Addr} {len cap:Nat} {xs:List Nat} (h:BS w a len cap xs):Hid (BS w a len cap xs):=h
theorem info5size:(prog.info? 5).map (·.size)=some 1:=by kernel_rfl
theorem aD8 (a:Option Addr) (len cap:Nat) (xs:List Nat) (p most:Int) (w:World) (h:BS w a len cap xs) (he:rbE xs p most≠0) :
  Calls prog 96 #[.slice a len cap,.int .i64 p,.int .i64 most] w fun e w' =>
   e=.returned (.tuple #[.slice none 0 0,.int .i64 0,.int .i64 (rbE xs p most)])/\w'=w:=by
 have hl:=h.hlen;have hr:=h.hroom;have hc:=aBh a len cap xs p w h;have hP:=@ruP_le xs p;have HE:Hid (rbE xs p most=if ruE xs p≠0 then ruE xs p else if most<0 then 1 else if most<ruN xs p then 3 else if xs.length<ruP xs p+ruN xs p then 10 else 0):=rfl;generalize ruE xs p=E at *
 generalize ruN xs p=N at *
 generalize ruP xs p=P at *
 generalize rbE xs p most=R at *
 have HC:Hid (Calls prog 66 #[.slice a len cap,.int .i64 p] w fun e w'=>e=.returned (.tuple #[.int .i64 N,.int .i64 P,.int .i64 E])/\w'=w):=hc;clear hc h;by_cases h1:E=0
 ·have hP:=hP h1;have t1:((E:Int) != 0)=false:=by simp;omega
  have HE2:=HE.out;rw [if_neg (by omega)] at HE2;have H1:Hid (E=0):=h1;clear h1;by_cases h2:most<0
  ·rw [if_pos h2] at HE2;have HE3:Hid (R=1):=HE2;clear HE2 HE;go_enter func96,ntmps96;go_wp2_with (go_at_call 66;refine HC.out.mono ?_;rintro e w' ⟨rfl,rfl⟩);go_ret3;exact ⟨by rw [HE3.out];rfl,rfl⟩
  rw [if_neg h2] at HE2;by_cases h3:most<N
  ·rw [if_pos h3] at HE2;have HE3:Hid (R=3):=HE2;clear HE2 HE;go_enter func96,ntmps96;go_wp2_with (go_at_call 66;refine HC.out.mono ?_;rintro e w' ⟨rfl,rfl⟩);go_ret3;exact ⟨by rw [HE3.out];rfl,rfl⟩
  rw [if_neg h3] at HE2;by_cases h4:xs.length<P+N
  ·rw [if_pos h4] at HE2;have HE3:Hid (R=10):=HE2;have h4':(len:Int)-(P:Int)<(N:Int):=by omega
   clear HE2 HE;go_enter func96,ntmps96;go_wp2_with (go_at_call 66;refine HC.out.mono ?_;rintro e w' ⟨rfl,rfl⟩);go_ret3;exact ⟨by rw [HE3.out];rfl,rfl⟩
  rw [if_neg h4] at HE2;exact absurd HE2 he
 ·have t1:((E:Int) != 0)=true:=by simp;omega
  have HE2:=HE.out;rw [if_pos h1] at HE2;have HE3:Hid (R=E):=HE2;clear HE2 HE hP h1;go_enter func96,ntmps96;go_wp2_with (go_at_call 66;refine HC.out.mono ?_;rintro e w' ⟨rfl,rfl⟩);go_ret3;exact ⟨by rw [HE3.out];rfl,rfl⟩
theorem aD7 (a:Option Addr) (len cap:Nat) (xs:List Nat) (p most:Int) (w:World) (h:BS w a len cap xs) (he:rbE xs p most=0) :
  Calls prog 96 #[.slice a len cap,.int .i64 p,.int .i64 most] w fun e w' =>
   ∃ g n,e=.returned (.tuple #[.slice (some ⟨g,0,none⟩) n n,.int .i64 (rbP xs p most),.int .i64 0])/\w.heap.size<=g/\BS w' (some ⟨g,0,none⟩) n n (rbS xs p most) /\
    w'.heap[g]?=some (.cells (cellsOf (rbS xs p most)).toArray 5 (0,0))/\Below w.heap.size w w':=by
 have hl:=h.hlen;have hr:=h.hroom;have hcp:=h.hcap;have hmx:=h.hmax;have hc:=aBh a len cap xs p w h;have hP:=@ruP_le xs p;have e1:rbS xs p most=(xs.drop (ruP xs p)).take (ruN xs p):=by unfold rbS;rw [if_pos he]
 have e2:rbP xs p most=ruP xs p+ruN xs p:=by unfold rbP;rw [if_pos he]
 rw [e1,e2];clear e1 e2;unfold rbE at he;generalize ruE xs p=E at *
 generalize ruN xs p=N at *
 generalize ruP xs p=P at *
 have HC:Hid (Calls prog 66 #[.slice a len cap,.int .i64 p] w fun e w'=>e=.returned (.tuple #[.int .i64 N,.int .i64 P,.int .i64 E])/\w'=w):=hc;have h1:E=0:=by
  rcases Nat.eq_zero_or_pos E with z | z
  ·exact z
  ·rw [if_pos (by omega)] at he;omega
 rw [if_neg (by omega)] at he;have h2:¬ most<0:=fun h=>by rw [if_pos h] at he;omega
 rw [if_neg h2] at he;have h3:¬ most<N:=fun h=>by rw [if_pos h] at he;omega
 rw [if_neg h3] at he;have h4:¬ xs.length<P+N:=fun h=>by rw [if_pos h] at he;omega
 have hP:=hP h1;have t1:((E:Int) != 0)=false:=by simp;omega
 have H1:Hid (E=0):=h1;have h4':¬ (len:Int)-(P:Int)<(N:Int):=by omega
 have hlenpos:0<len:=by omega
 obtain ⟨b,o,rfl,hbl,hcell⟩:=h.place hlenpos;have HL:Hid (xs.length=len):=hl;have hPl:P+N<=len:=by omega
 have HBS:=hide_bs h;have HCELL:Hid (∀ i,i<len->w.cell? ⟨b,o+i,none⟩=some (.int .u8 (xs.getD i 0:Nat))):=hcell;clear hc h he h1 hl h4 hcell;have hmk:=run_make_row' (P:=prog) 26 5 (.int .u8 0) 1 underlying26 aF2 rfl .i64 .i64 N (by omega) (by omega);have HY:Hid (((xs.drop P).take N).length=N):=by
  show _=_;rw [List.length_take,List.length_drop,HL.out];omega
 have HYB:Hid (∀ n∈(xs.drop P).take N,n<256):=fun n hn=>HBS.out.hbyte n (List.mem_of_mem_drop (List.mem_of_mem_take hn))
 have HYC:Hid (∀ j,j<N->((xs.drop P).take N).getD j 0=xs.getD (P+j) 0):=fun j hj=>by
  simp only [List.getD_eq_getElem?_getD,List.getElem?_take_of_lt hj,List.getElem?_drop]
 generalize (xs.drop P).take N=ys at *
 have hcs:Hid (∀ j v,(cellsOf ys)[j]?=some v->(w.alloc (.cells (madeCells #[.int .u8 0] N) 5)).cell? ((⟨b,o+P,none⟩:Addr).add j)=some v):=by
  intro j v hv;have hj:j<ys.length:=by
   rcases Nat.lt_or_ge j ys.length with hj | hj
   ·exact hj
   ·rw [List.getElem?_eq_none (by simpa [aAi] using hj)] at hv;simp at hv
  rw [aBp ys j hj,HYC.out j (by have:=HY.out;omega)] at hv;rw [<-hv,add_plain,World.cell?_alloc_lt _ _ _ hbl,Nat.add_assoc];exact HCELL.out _ (by have:=HY.out;omega)
 have hblk:Hid ((w.alloc (.cells (madeCells #[.int .u8 0] N) 5)).heap[w.heap.size]?=some (.cells (List.replicate N (Value.int .u8 0)).toArray 5 (0,0))):=by
  show _=_;rw [heap_alloc_new,<-toList_madeCells_one]
 have hbel:Below w.heap.size w (w.alloc (.cells (madeCells #[.int .u8 0] N) 5)):=(Below.refl _ _).alloc (nR _) _;have s1:Hid ((cellsOf ys).length=Nat.min (len-P) N):=by
  show _=_;rw [aAi,HY.out];exact (Nat.min_eq_right (by omega)).symm
 have s3:Hid (0+(cellsOf ys).length<=(List.replicate N (Value.int .u8 0)).length):=by
  show _<=_;rw [aAi,HY.out,List.length_replicate];omega
 have fin:∀ w2:World,Hid (w2.heap[w.heap.size]?=some (.cells (splice (List.replicate N (Value.int .u8 0)) 0 (cellsOf ys)).toArray 5 (0,0)))->Below w.heap.size w w2 ->
   Hid (BS w2 (some ⟨w.heap.size,0,none⟩) N N ys/\w2.heap[w.heap.size]?=some (.cells (cellsOf ys).toArray 5 (0,0))/\Below w.heap.size w w2):=by
  intro w2 hh hb2;have he:splice (List.replicate N (Value.int .u8 0)) 0 (cellsOf ys)=cellsOf ys:=by
   simp [splice,aAi,HY.out]
  have hh:=hh.out;rw [he] at hh;refine ⟨BS.of HY.out (nR _) (by omega) (by omega) HYB.out (fun i hi=>?_),hh,hb2⟩;rw [cell_of_row w2 _ _ _ _ _ hh,Nat.zero_add,List.getElem?_toArray,aBp ys i (by rw [HY.out];exact hi)]
 by_cases hPc:P=cap
 ·have HN0:Hid (N=0):=by show _=_;omega
  have q1:cap<=P:=by omega
  clear hPc;go_enter func96,ntmps96;go_wp2_with fail;refine HC.out.mono ?_;rintro e w' ⟨rfl,hw⟩;have hw:=hw.symm;subst hw;go_wp2_with (refine wpList_copy_splice rfl (.tmp 38) (.tmp 41) 26 26 rfl 5 underlying26 info5size _ _ N N (len-P) _ rfl rfl w.heap.size 0 (List.replicate N (Value.int .u8 0)) 5 hblk.out (cellsOf ys) s1.out (fun h=>absurd h (by rw [aAi,HY.out,HN0.out];omega)) s3.out (aCf ys) w.heap.size w hbel (nR _) ?_);intro w2 hh hb2;have HFIN:=fin w2 hh hb2;have hadd:Hid ((P:Int)+(N:Int)=((P+N:Nat):Int)):=by show _=_;omega
  go_wp2;go_ret3;exact ⟨w.heap.size,N,by first | rfl | (rw [<-hadd.out];rfl),nR _,HFIN.out⟩
 ·have hPc':¬ cap=P:=fun h=>hPc h.symm
  go_enter func96,ntmps96;go_wp2_with fail;refine HC.out.mono ?_;rintro e w' ⟨rfl,hw⟩;have hw:=hw.symm;subst hw;go_wp2_with (refine wpList_copy_splice rfl (.tmp 38) (.tmp 41) 26 26 rfl 5 underlying26 info5size _ _ N N (len-P) _ rfl rfl w.heap.size 0 (List.replicate N (Value.int .u8 0)) 5 hblk.out (cellsOf ys) s1.out (fun _=>⟨rfl,_,rfl,hcs.out⟩) s3.out (aCf ys) w.heap.size w hbel (nR _) ?_);intro w2 hh hb2;have HFIN:=fin w2 hh hb2;have hadd:Hid ((P:Int)+(N:Int)=((P+N:Nat):Int)):=by show _=_;omega
  go_wp2;go_ret3;exact ⟨w.heap.size,N,by first | rfl | (rw [<-hadd.out];rfl),nR _,HFIN.out⟩
end Go.Proofs.YtmmcebojbbdfmaaGreat
