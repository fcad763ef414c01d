import Derived.Test.YtdfjjhlhnfindaaGreatProg
import Derived.WalkKit
import Derived.WalkSpells
import Derived.WalkLawsBesides
import Derived.Laws.BytesArg
import Derived.Maps.AppendAt
import Derived.Laws.AppendOwnNone
import Derived.Laws.CopyOwn
set_option maxRecDepth 100000
set_option maxHeartbeats 16000000
namespace Go.Proofs.YtdfjjhlhnfindaaGreat
open Go.RowKit Tryz
variable {B b c cap g i len o:Nat} {a:Option Addr} {v:Value} {w w':World} {xs:List Nat}
theorem lO {α:Type} {xs:Array α} {a:α} (h:xs[i]?=some a):i<xs.size:=(Array.getElem?_eq_some_iff.1 h).1
theorem nT {a:Nat} (h:a<=b) (k:b<=c):a<=c:=Nat.le_trans h k
theorem nR (n:Nat):n<=n:=Nat.le_refl n
theorem gE {α:Type} {l:List α} (h:i<l.length):l[i]?=some l[i]:=List.getElem?_eq_getElem h
theorem mG {α:Type} {l:List α} {a:α} (h:l[i]?=some a):a∈l:=List.mem_of_getElem? h
theorem lA {α:Type} {xs ys:List α}:(xs++ys).length=xs.length+ys.length:=List.length_append
theorem oI {α:Type} {a b:α}:(some a=some b)=(a=b):=Option.some.injEq a b
theorem cI {a c:Array Value} {t u:TypeId} {f g:Nat×Nat}:(Obj.cells a t f=Obj.cells c u g)=(a=c/\t=u/\f=g):=Obj.cells.injEq a t f c u g
theorem lL {α:Type} {l:List α} {a:α} (h:l[i]?=some a):i<l.length:=(List.getElem?_eq_some_iff.1 h).1
structure BS (w:World) (a:Option Addr) (len cap:Nat) (xs:List Nat):Prop where
 hlen:xs.length=len
 hcap:len<=cap
 hroom:len<=140737488355328
 hmax:cap<=9223372036854775807
 hbyte:∀ n∈xs,n<256
 hnil:a=none->cap=0
 hcell:∀ x,a=some x->∀ i,i<len->w.cell? (x.add i)=some (.int .u8 (xs.getD i 0:Nat))
theorem aEy (h:∀ n∈xs,n<256) (i:Nat):xs.getD i 0<256:=by
 rw [List.getD_eq_getElem?_getD];rcases Nat.lt_or_ge i xs.length with hi | hi
 ·rw [gE hi];exact h _ (List.getElem_mem hi)
 ·rw [List.getElem?_eq_none hi];decide
theorem aAk {a:Addr} (h:w.cell? a=some v):a.block<w.heap.size:=by
 rcases Nat.lt_or_ge a.block w.heap.size with hb | hb
 ·exact hb
 ·simp [World.cell?,Array.getElem?_eq_none hb] at h
theorem add_plain (b o i:Nat):(⟨b,o,none⟩:Addr).add i=⟨b,o+i,none⟩:=by unfold Addr.add;split<;>simp_all
theorem BS.place (h:BS w a len cap xs) (h0:0<len) :
  ∃ b o,a=some ⟨b,o,none⟩/\b<w.heap.size/\∀ i,i<len->w.cell? ⟨b,o+i,none⟩=some (.int .u8 (xs.getD i 0:Nat)):=by
 cases a with
 | none=>have:=h.hnil rfl;have:=h.hcap;omega
 | some x =>
  obtain ⟨b,o,s⟩:=x;have hc:=h.hcell _ rfl 0 h0;have hs:s=none:=by simpa [Addr.add] using World.cell?_spot hc
  subst hs;have hcell:∀ i,i<len->w.cell? ⟨b,o+i,none⟩=some (.int .u8 (xs.getD i 0:Nat)):=fun i hi=>by
   have:=h.hcell _ rfl i hi;rwa [add_plain] at this
  exact ⟨b,o,rfl,aAk (hcell 0 h0),hcell⟩
theorem BS.later (h:BS w a len cap xs) (hb:Below B w w') (hB:w.heap.size<=B):BS w' a len cap xs:=by
 refine ⟨h.hlen,h.hcap,h.hroom,h.hmax,h.hbyte,h.hnil,fun x hx i hi=>?_⟩;have hc:=h.hcell x hx i hi;rw [<-hc];exact hb.cell (Nat.lt_of_lt_of_le (aAk hc) hB)
theorem BS.none (w:World) (a:Option Addr) (cap:Nat) (hr:cap<=9223372036854775807) (hn:a=Option.none->cap=0):BS w a 0 cap [] :=
 ⟨rfl,Nat.zero_le _,Nat.zero_le _,hr,by simp,hn,fun _ _ _ h=>absurd h (by omega)⟩
theorem BS.of (hl:xs.length=len) (hc:len<=cap) (hr:len<=140737488355328) (hm:cap<=9223372036854775807) (hb:∀ n∈xs,n<256)
  (hcell:∀ i,i<len->w.cell? ⟨b,o+i,Option.none⟩=some (.int .u8 (xs.getD i 0:Nat))):BS w (some ⟨b,o,Option.none⟩) len cap xs :=
 ⟨hl,hc,hr,hm,hb,by simp,fun x hx i hi=>by simp at hx;subst hx;rw [add_plain];exact hcell i hi⟩
def str (xs:List Nat):ByteArray:=strOfNums (xs.map Int.ofNat)
theorem getD_map (xs:List Nat) (i:Nat):(xs.map Int.ofNat).getD i 0=((xs.getD i 0:Nat):Int):=by
 simp only [List.getD_eq_getElem?_getD,List.getElem?_map]
 cases xs[i]?<;>rfl
theorem run_text (h:BS w a len cap xs) :
  (convert 55 9 (.slice a len cap)).run prog w=.ok (.string (str xs)) w:=by
 rcases Nat.eq_zero_or_pos len with h0 | h0
 ·have hx:xs=[]:=List.eq_nil_of_length_eq_zero (by have:=h.hlen;omega);subst hx h0
  cases a with
  | none=>exact run_convert_bytes_nil w _ _ underlying55 underlying5 0 cap _ underlying9
  | some x =>
   rw [run_convert_bytes_string w _ _ _ _ 0 cap underlying55 underlying5 underlying9];rw [run_bytesToString w x 0 cap [] (by simpa using run_loadCells_list (P:=prog) w x [] (by simp))];rfl
 ·obtain ⟨b,o,rfl,_,hc⟩:=h.place h0;exact run_convert_bytes_arg w _ _ underlying55 underlying5 b o len cap (xs.map Int.ofNat) (by simpa using h.hlen) (fun i hi=>by rw [getD_map];exact hc i hi) _ underlying9
def cellsOf (xs:List Nat):List Value:=xs.map fun (n:Nat)=>Value.int .u8 (n:Int)
theorem aAd (xs:List Nat):(cellsOf xs).length=xs.length:=by simp [cellsOf]
theorem aAq (xs ys:List Nat):cellsOf (xs++ys)=cellsOf xs++cellsOf ys:=by simp [cellsOf]
theorem aAz (xs:List Nat):∀ u∈cellsOf xs,u.oneCell'=true:=by
 intro u hu;simp only [cellsOf,List.mem_map] at hu;obtain ⟨n,_,rfl⟩:=hu;rfl
theorem aBa (xs:List Nat) (j:Nat) (hj:j<xs.length):(cellsOf xs)[j]?=some (.int .u8 (xs.getD j 0:Nat)):=by
 simp [cellsOf,hj]
theorem BS.news {x:Addr} (h:BS w (some x) len cap xs):∀ j u,(cellsOf xs)[j]?=some u->w.cell? (x.add j)=some u:=by
 intro j u hu;have hj:j<xs.length:=by
  rcases Nat.lt_or_ge j xs.length with hj | hj
  ·exact hj
  ·rw [List.getElem?_eq_none (by simpa [aAd] using hj)] at hu;simp at hu
 rw [aBa xs j hj] at hu;rw [h.hcell x rfl j (by have:=h.hlen;omega)];exact hu
theorem BS.ofOwns {base:Nat} (h:w.ownsRow base 5 1 (.slice (some ⟨g,0,Option.none⟩) len cap) len (cellsOf xs)) (hr:len<=140737488355328) (hb:∀ n∈xs,n<256) :
  BS w (some ⟨g,0,Option.none⟩) len cap xs:=by
 have hl:xs.length=len:=by have:=h.1;simpa [aAd] using this
 obtain ⟨hcap,hmax⟩:len<=cap/\cap<=maxLen:=by
  rcases h.2 with ⟨h1,_⟩ | ⟨g',cap',cur,hv,_,_,h1,h2,_⟩
  ·simp at h1
  ·simp at hv;obtain ⟨_,rfl⟩:=hv;exact ⟨h1,h2⟩
 unfold maxLen at hmax;refine BS.of hl hcap hr (by omega) hb (fun i hi=>?_);rw [Nat.zero_add,h.cellAt i (by omega),aBa xs i (by omega)]
theorem aE1:(prog.info? 5).map (fun i=>(i.zero,i.size,i.bytes))=some (some (.int .u8 0),1,1):=by kernel_rfl
end Go.Proofs.YtdfjjhlhnfindaaGreat
set_option linter.unusedVariables false
namespace Go.Proofs.YtdfjjhlhnfindaaGreat
open Go.RowKit Tryz
variable {B cap g gb i k len p size:Nat} {a:Option Addr} {cs:Array Value} {fz:Nat×Nat} {v:Value} {w w' wr:World} {xs ys:List Nat}
theorem zH {p:Prop} (h:p):Hid p:=h
theorem _root_.Go.RowKit.Hid.o {p:Prop} (h:Hid p):p:=h
def zs (n:Nat):List Nat:=List.replicate n 0
theorem aGe (n:Nat):(zs n).length=n:=by simp [zs]
def blk:Nat:=8192
def pad (xs:List Nat):List Nat:=xs++zs (blk-xs.length)
theorem aCj (h:xs.length<=blk):(pad xs).length=blk:=by rw [pad,lA,aGe];omega
theorem zs_lt (n:Nat):∀ c∈zs n,c<256:=by
 intro c hc;simp only [zs,List.mem_replicate] at hc;omega
theorem aC4 (h:∀ n∈xs,n<256):∀ n∈pad xs,n<256:=by
 intro n hn;simp only [pad,List.mem_append] at hn;exact hn.elim (h n) (zs_lt _ n)
theorem zs_drop (n k:Nat):(zs n).drop k=zs (n-k):=by simp [zs]
theorem aC3 (n:Nat):(madeCells (Value.int .u8 0).cells (n*1)).toList=cellsOf (zs n):=by
 have:(Value.int .u8 0).cells=#[.int .u8 0]:=rfl;rw [this,Nat.mul_one,toList_madeCells_one];simp [cellsOf,zs]
theorem aEx (xs:List Nat) (k:Nat):(cellsOf xs).drop k=cellsOf (xs.drop k):=by simp [cellsOf]
theorem aGh (xs:List Nat):splice (cellsOf (zs blk)) 0 (cellsOf xs)=cellsOf (pad xs):=by
 rw [splice,List.take_zero,List.nil_append,aAd,aEx,zs_drop,Nat.zero_add,pad,aAq]
theorem aCf (h:w.ownsRow B 5 1 v xs.length (cellsOf xs)) (hr:xs.length<=140737488355328) (hb:∀ n∈xs,n<256):∃ a cap,v=.slice a xs.length cap/\BS w a xs.length cap xs:=by
 rcases h.2 with ⟨rfl,h0⟩ | ⟨g,cap,cur,rfl,_⟩
 ·have e:xs=[]:=List.eq_nil_of_length_eq_zero h0;subst e;exact ⟨none,0,rfl,BS.none w none 0 (by omega) (fun _=>rfl)⟩
 ·exact ⟨some ⟨g,0,none⟩,cap,rfl,BS.ofOwns h hr hb⟩
theorem bs_take (h:BS w a len cap xs) (p:Nat) (hp:p<=len):BS w a p cap (xs.take p):=by
 have h1:=h.hlen;have h2:=h.hcap;have h3:=h.hroom;refine ⟨by rw [List.length_take];omega,by omega,by omega,h.hmax,fun n hn=>h.hbyte n (List.mem_of_mem_take hn),h.hnil,fun x hx i hi=>?_⟩;rw [h.hcell x hx i (by omega)]
 congr 3
 simp [List.getD,hi]
theorem aCu {n:Nat} (h:w.ownsRow B 5 1 (.slice (some ⟨g,0,none⟩) n n) n (cellsOf xs)):w.heap[g]?=some (.cells (cellsOf xs).toArray 5 (0,0))/\B<=g:=by
 rcases h.2 with ⟨e,_⟩ | ⟨g',cap,cur,e,h1,h2,h3,h4,h5,h6⟩
 ·cases e
 ·simp only [Value.slice.injEq,oI,Addr.mk.injEq,and_true,true_and] at e;obtain ⟨rfl,rfl⟩:=e;refine ⟨?_,h1⟩;rw [h2,<-h6]
  congr 2
  apply Array.toList_inj.1;simp only;rw [List.take_of_length_le (by simp;omega)]
theorem aDg {n:Nat} (h:w.heap[g]?=some (.cells (cellsOf xs).toArray 5 (0,0))) (hg:B<=g) (hn:xs.length=n) (hm:n<=maxLen):w.ownsRow B 5 1 (.slice (some ⟨g,0,none⟩) n n) n (cellsOf xs):=by
 refine ⟨by rw [aAd];omega,Or.inr ⟨g,n,_,rfl,hg,h,Nat.le_refl _,hm,by simp [aAd];omega,?_⟩⟩;exact List.take_of_length_le (by simp [aAd];omega)
theorem bs_src (h:BS w a len cap xs):0<(cellsOf xs).length->∃ ad,a=some ad/\∀ j v,(cellsOf xs)[j]?=some v->w.cell? (ad.add j)=some v:=by
 intro h0;rw [aAd,h.hlen] at h0;obtain ⟨b,o,rfl,_⟩:=h.place h0;exact ⟨_,rfl,h.news⟩
theorem aFd (a:Option Addr) (len cap:Nat) (xs:List Nat) (w:World) (h:BS w a len cap xs) (hl:len<=blk) :
  Calls prog 109 #[.slice a len cap] w fun e w'=>e=.returned (.slice (some ⟨w.heap.size,0,none⟩) blk blk)/\w'.ownsRow w.heap.size 5 1 (.slice (some ⟨w.heap.size,0,none⟩) blk blk) blk (cellsOf (pad xs))/\Below w.heap.size w w':=by
 obtain ⟨i0,hi,hz0,hz1,hz2⟩:=info_parts aE1;have H:=zH h;have HL:=zH h.hlen;have HM:=zH (aC3 blk);have HPL:=zH (aCj (xs:=xs) (by rw [h.hlen];exact hl));have HSP:=zH (aGh xs);have HB8:Hid (blk=8192):=rfl;have HB9:Hid (((blk:Nat):Int)=8192):=rfl;generalize blk=N at *
 clear h;go_enter func109,ntmps109
 go_wp2_with (first
  | (refine wpList_make_full w rfl _ _ 55 rfl w.heap.size 5 i0 (.int .u8 0) 1 underlying55 hi hz0 hz1 .i64 .i64 8192 8192 N rfl rfl (HB9.o.symm) (HB9.o.symm) (by rw [hz2,HB8.o];decide) (by rw [HB8.o];unfold maxLen;omega) (nR _) ?_;intro w1 ho1 hg1;rw [HM.o] at ho1;have HO1:=zH ho1;have HG1:=zH ((Below.refl w.heap.size w).grown hg1 (nR _) (fun k hk=>by cases hk));clear ho1 hg1)
  | (refine wpList_copy_splice rfl (.tmp 5) (.tmp 6) 55 55 rfl 5 underlying55 (by rw [hi];simp [hz1]) _ _ N N len cap rfl rfl w.heap.size 0 (cellsOf (zs N)) 5 (aCu HO1.o).1 (cellsOf xs) (by rw [aAd,HL.o];exact (Nat.min_eq_left hl).symm) (fun h=>⟨rfl,bs_src (H.out.later HG1.o (Nat.le_refl _)) h⟩) (by rw [aAd,aAd,aGe,HL.o];omega) (aAz xs) w.heap.size w HG1.o (Nat.le_refl _) ?_;intro w2 HR2 hb2;rw [HSP.o] at HR2;have HB2:=zH hb2;clear hb2))
 go_ret;refine ⟨rfl,aDg HR2.o (nR _) ?_ (by rw [HB8.o];unfold maxLen;omega),HB2.o⟩;rw [HPL.o]
def keptN (keep:Nat) (torn cut:Int) (i:Nat):Nat:=if (i:Int)=torn then (min (max cut 0) 8192).toNat else if keep / 2 ^ (i % 64) % 2=1 then blk else 0
theorem keep_bit (keep m:Nat) (h:keep<18446744073709551616):bits BinOp.and IntKind.u64 ((keep:Int) / 2 ^ m) 1=((keep / 2 ^ m % 2:Nat):Int):=by
 have e:(keep:Int) / 2 ^ m=((keep / 2 ^ m:Nat):Int):=by simp
 have l:keep / 2 ^ m<=keep:=Nat.div_le_self _ _;rw [e,and_one_u64 _ (Int.natCast_nonneg _) (by omega)];omega
theorem aDz (after:Int) (keep:Nat) (torn cut:Int) (i:Nat) (w:World) (hi:i<1000000) (hk:keep<18446744073709551616) :
  Calls prog 78 #[.agg #[.int .i64 after,.int .u64 (keep:Int),.int .i64 torn,.int .i64 cut],.int .i64 i] w fun e w'=>e=.returned (.int .i64 (keptN keep torn cut i:Nat))/\Below w.heap.size w w':=by
 have hb:=keep_bit keep (i % 64) hk;have HN:Hid (keptN keep torn cut i=if (i:Int)=torn then (min (max cut 0) 8192).toNat else if keep / 2 ^ (i % 64) % 2=1 then blk else 0):=rfl;generalize keptN keep torn cut i=n at *
 generalize hB:keep / 2 ^ (i % 64) % 2=b at hb HN;clear hB;by_cases ht:(i:Int)=torn
 ·have hn:=HN.o;rw [if_pos ht] at hn;have t1:((i:Int) == torn)=true:=by simp [ht]
  by_cases c1:cut<0
  ·have HQ:Hid ((n:Int)=0):=by show _=_;omega
   clear hn HN ht hb;go_enter func78,ntmps78;go_wp2;go_ret;rw [HQ.o];exact ⟨rfl,(Below.refl _ _).alloc (nR _) _⟩
  ·by_cases c2:8192<cut
   ·have HQ:Hid ((n:Int)=8192):=by show _=_;omega
    clear hn HN ht hb;go_enter func78,ntmps78;go_wp2;go_ret;rw [HQ.o];exact ⟨rfl,(Below.refl _ _).alloc (nR _) _⟩
   ·have HQ:Hid ((n:Int)=cut):=by show _=_;omega
    clear hn HN ht hb;go_enter func78,ntmps78;go_wp2;go_ret;rw [HQ.o];exact ⟨rfl,(Below.refl _ _).alloc (nR _) _⟩
 ·have hn:=HN.o;rw [if_neg ht] at hn;have t1:((i:Int) == torn)=false:=by simp [ht]
  by_cases c1:b=1
  ·rw [if_pos c1] at hn;have HQ:Hid ((n:Int)=8192):=by show _=_;rw [hn];rfl
   subst c1;clear hn HN ht;go_enter func78,ntmps78;go_wp2;go_ret;rw [HQ.o];exact ⟨rfl,(Below.refl _ _).alloc (nR _) _⟩
  ·rw [if_neg c1] at hn;have HQ:Hid ((n:Int)=0):=by show _=_;rw [hn];rfl
   have t2:((b:Int) == 1)=false:=by simp;omega
   clear hn HN ht c1;go_enter func78,ntmps78;go_wp2;go_ret;rw [HQ.o];exact ⟨rfl,(Below.refl _ _).alloc (nR _) _⟩
def laidL (old b:List Nat) (k:Nat):List Nat:=if k=0 then old else if k=blk then b else (pad b).take k++(pad old).drop k
theorem laidL_len (h1:xs.length<=blk) (h2:ys.length<=blk) (hk:k<=blk):(laidL xs ys k).length<=blk:=by
 unfold laidL;split
 ·exact h1
 ·split
  ·exact h2
  ·rw [lA,List.length_take,List.length_drop,aCj h1,aCj h2];omega
theorem laidL_lt (h1:∀ n∈xs,n<256) (h2:∀ n∈ys,n<256):∀ n∈laidL xs ys k,n<256:=by
 unfold laidL;split
 ·exact h1
 ·split
  ·exact h2
  ·intro n hn;rcases List.mem_append.1 hn with h | h
   ·exact aC4 h2 n (List.mem_of_mem_take h)
   ·exact aC4 h1 n (List.mem_of_mem_drop h)
theorem splice_laid (h1:xs.length<=blk) (h2:ys.length<=blk) (hk:k<=blk):splice (cellsOf (pad xs)) 0 (cellsOf ((pad ys).take k))=cellsOf ((pad ys).take k++(pad xs).drop k):=by
 rw [splice,List.take_zero,List.nil_append,aAd,aEx,aAq,List.length_take,aCj h2,Nat.zero_add,Nat.min_eq_left hk]
theorem aAh {base:Nat} {e:TypeId} {n:Nat} {xs:List Value} (h:w.ownsRow base e size v n xs) (hb:Below w.heap.size w w'):w'.ownsRow base e size v n xs:=by
 obtain ⟨h1,h2⟩:=h;refine ⟨h1,?_⟩;rcases h2 with h2 | ⟨g,cap,cur,hv,hg,hc,h3⟩
 ·exact Or.inl h2
 ·refine Or.inr ⟨g,cap,cur,hv,hg,?_,h3⟩;rw [hb.block g (lO hc)];exact hc
theorem aBh {base base':Nat} {e:TypeId} {n:Nat} {xs:List Value} (h:w.ownsRow base e size v n xs) (hb:base'<=base):w.ownsRow base' e size v n xs:=by
 obtain ⟨h1,h2⟩:=h;refine ⟨h1,?_⟩;rcases h2 with h2 | ⟨g,cap,cur,hv,hg,hc,h3⟩
 ·exact Or.inl h2
 ·exact Or.inr ⟨g,cap,cur,hv,nT hb hg,hc,h3⟩
theorem laid_any (B:Nat) (v1 v2:Value) (xs ys:List Nat) (k:Nat) (w:World) (h1:w.ownsRow B 5 1 v1 xs.length (cellsOf xs)) (h2:w.ownsRow B 5 1 v2 ys.length (cellsOf ys)) (hB:B<=w.heap.size)
  (l1:xs.length<=blk) (l2:ys.length<=blk) (b1:∀ n∈xs,n<256) (b2:∀ n∈ys,n<256) (hk:k<=blk) :
  Calls prog 77 #[v1,v2,.int .i64 k] w fun e w'=>∃ v,e=.returned v/\w'.ownsRow B 5 1 v (laidL xs ys k).length (cellsOf (laidL xs ys k))/\Below w.heap.size w w':=by
 by_cases c0:k=0
 ·have e:laidL xs ys k=xs:=by unfold laidL;rw [if_pos c0]
  rw [e];subst c0;have H1:=zH h1;clear h1 h2;go_enter func77,ntmps77;go_wp2;go_ret;exact ⟨_,rfl,H1.o,Below.refl _ _⟩
 ·by_cases c1:k=blk
  ·have e:laidL xs ys k=ys:=by unfold laidL;rw [if_neg c0,if_pos c1]
   rw [e];subst c1;have H2:=zH h2;have hb:((blk:Nat):Int)=8192:=rfl;clear h1 h2;go_enter func77,ntmps77;go_wp2;go_ret;exact ⟨_,rfl,H2.o,Below.refl _ _⟩
  ·obtain ⟨i0,hi,hz0,hz1,hz2⟩:=info_parts aE1;have e:laidL xs ys k=(pad ys).take k++(pad xs).drop k:=by unfold laidL;rw [if_neg c0,if_neg c1]
   rw [e];have hb:blk=8192:=rfl;obtain ⟨a1,cp1,rfl,s1⟩:=aCf h1 (by omega) b1;obtain ⟨a2,cp2,rfl,s2⟩:=aCf h2 (by omega) b2;have S1:=zH s1;have S2:=zH s2;have HSP:=zH (splice_laid l1 l2 hk);have k1:((k:Int) == 0)=false:=by simp;omega
   have k2:((k:Int) == 8192)=false:=by simp;omega
   have HP2:=zH (aCj l2);have HP1:=zH (aCj l1);have HLT:=zH (aC4 b2);have HW:=zH (fun ww (hh:BS ww a1 xs.length cp1 xs)=>aFd a1 xs.length cp1 xs ww hh l1);have HW2:=zH (fun ww (hh:BS ww a2 ys.length cp2 ys)=>aFd a2 ys.length cp2 ys ww hh l2);have HB8:=zH hb;have HBW:=zH hB;clear h1 h2 s1 s2 c0 c1 e hb;generalize blk=N at *
   have k3:(0:Int)<=(k:Int):=by omega
   have k4:(k:Int)<=(N:Int):=by omega
   go_enter func77,ntmps77;go_wp2_with fail;refine (HW.o _ S1.out).mono ?_;rintro e w1 ⟨rfl,ho1,hb1⟩;have HO1:=zH ho1;have HB1:=zH hb1;clear ho1 hb1;go_wp2_with fail;refine (HW2.o _ (S2.out.later HB1.o (nR _))).mono ?_;rintro e w2 ⟨rfl,ho2,hb2⟩;have HO2:=zH (aAh HO1.o hb2);have HO3:=zH (bs_take (BS.ofOwns ho2 (by have:=HB8.o;omega) HLT.o) k hk);have HB2:=zH (HB1.o.trans (hb2.mono HB1.o.size));clear ho2 hb2;go_wp2_with (refine wpList_copy_splice rfl (.tmp 17) (.tmp 21) 55 55 rfl 5 underlying55 (by rw [hi];simp [hz1]) _ _ N N k N rfl rfl w.heap.size 0 (cellsOf (pad xs)) 5 (aCu HO2.o).1 (cellsOf ((pad ys).take k)) (by rw [aAd,List.length_take,HP2.o]) (fun h=>⟨rfl,bs_src HO3.o h⟩) (by rw [aAd,aAd,List.length_take,HP1.o,HP2.o];omega) (aAz _) w.heap.size w HB2.o (Nat.le_refl _) ?_;intro w3 HR3 hb3;rw [HSP.o] at HR3;have HB3:=zH hb3;clear hb3);go_ret;have hlen:((pad ys).take k++(pad xs).drop k).length=N:=by rw [lA,List.length_take,List.length_drop,HP1.o,HP2.o];omega
   refine ⟨_,rfl,?_,HB3.o⟩;rw [hlen];exact aDg HR3.o HBW.o hlen (by rw [HB8.o];unfold maxLen;omega)
theorem aBv (a:Option Addr) (len cap:Nat) (xs:List Nat) (w:World) (h:BS w a len cap xs) :
  Calls prog 39 #[.slice a len cap] w fun e w'=>∃ v,e=.returned v/\w'.ownsRow w.heap.size 5 1 v xs.length (cellsOf xs)/\Below w.heap.size w w':=by
 obtain ⟨i0,hi,hz0,hz1,hz2⟩:=info_parts aE1;have hl:=h.hlen;have hr:=h.hroom;have H:=zH h
 cases a with
 | none =>
  have:=h.hnil rfl;have:=h.hcap;have e:xs=[]:=List.eq_nil_of_length_eq_zero (by omega);subst e;clear h;have hq:=fun (n c:Nat) (ww:World)=>Lib.run_eql_slice_nil (P:=prog) ww 55 5 none n c 0 0 underlying55
  go_enter func39,ntmps39;go_wp2;go_ret;exact ⟨_,rfl,World.ownsRow_nil _ _ _ _,Below.refl _ _⟩
 | some x =>
  have HL:=zH hl;have HO:Hid ((w.alloc (.cells #[] 5)).ownsRow w.heap.size 5 1 (.slice (some ⟨w.heap.size,0,none⟩) 0 0) 0 []):=World.ownsRow_lit w #[] 0 (nR _) (by unfold maxLen;omega) rfl;have HB:=zH ((Below.refl w.heap.size w).alloc (nR _) (.cells #[] 5));have HN:=zH (H.out.later HB.o (nR _)).news;clear h hl;have hq:=fun (n c:Nat) (ww:World)=>Lib.run_eql_slice_nil (P:=prog) ww 55 5 (some x) n c 0 0 underlying55
  go_enter func39,ntmps39;go_wp2_with (at_builtin;refine wpList_append_own_at _ rfl (.tmp 5) (.tmp 6) 55 rfl w.heap.size 5 i0 (.int .u8 0) 1 1 underlying55 hi hz0 hz1 hz2 rfl (by omega) _ 0 [] rfl HO.o x len cap (cellsOf xs) rfl (by rw [aAd,HL.o,Nat.mul_one]) HN.o (aAz xs) (by unfold maxLen;omega) (by omega) (by simp) ?_;intro v' w' h2 h3 h4 h5;have HO2:=zH h2;have HB2:=zH (HB.o.grown h3 (by simp) (fun j hj=>(HO.o.lt j hj).1));clear h2 h3 h4 h5);go_ret;have h2:=HO2.o;rw [Nat.zero_add,List.nil_append,<-HL.o] at h2;exact ⟨_,rfl,h2,HB2.o⟩
class Gd where
 s:Nat->Prop
def DTy (t:TypeId):Prop:=t=84\/t=167\/t=164\/t=3\/t=214\/t=218
def FBk (w:World) (k:Nat):Prop:=∃ cs t,w.heap[k]?=some (Obj.cells cs t (0,0))/\DTy t
theorem FBk.lt (h:FBk w k):k<w.heap.size:=by
 obtain ⟨cs,t,e,_⟩:=h;exact (lO e)
theorem FBk.same (h:FBk w k) (e:w'.heap[k]?=w.heap[k]?):FBk w' k:=by
 obtain ⟨cs,t,e1,h1⟩:=h;exact ⟨cs,t,e.trans e1,h1⟩
theorem FBk.ne {t:TypeId} (h:FBk w k) (hg:w.heap[g]?=some (Obj.cells cs t fz)) (ht:¬ DTy t):k≠g:=by
 obtain ⟨c1,t1,e1,h1⟩:=h;intro e;subst e;rw [hg] at e1;simp only [oI,cI] at e1;exact ht (e1.2.1 ▸ h1)
theorem gd_ne [Gd] (h:¬ Gd.s g) (hk:Gd.s k):k≠g:=fun e=>h (e ▸ hk)
def GdK [Gd] (w w':World):Prop:=∀ k,Gd.s k->FBk w k->w'.heap[k]?=w.heap[k]?
theorem GdK.refl [Gd] (w:World):GdK w w:=fun _ _ _=>rfl
theorem GdK.trans [Gd] {a b c:World} (h:GdK a b) (k:GdK b c):GdK a c:=fun i hi hf=>(k i hi (hf.same (h i hi hf))).trans (h i hi hf)
theorem GdK.of [Gd] (h:Below w.heap.size w w'):GdK w w':=fun k _ hf=>h.block k hf.lt
def two (f g:Nat->Value) (n:Nat):List Value:=(List.range n).flatMap fun i=>[f i,g i]
theorem aBr (f g:Nat->Value) (n:Nat):two f g (n+1)=two f g n++[f n,g n]:=by simp [two,List.range_succ]
theorem aBe (f g:Nat->Value):∀ n,(two f g n).length=n*2
 | 0=>rfl
 | n+1=>by rw [aBr,lA,aBe f g n];simp;omega
theorem aA0 (f g:Nat->Value) (i:Nat):∀ n,i<n->(two f g n)[i*2]?=some (f i)
 | 0,h=>by omega
 | n+1,h=>by
  rw [aBr]
  by_cases e:i=n
  ·subst e
   rw [List.getElem?_append_right (by rw [aBe];exact nR _),aBe]
   simp
  ·rw [List.getElem?_append_left (by rw [aBe];omega)]
   exact aA0 f g i n (by omega)
theorem aA2 (f g:Nat->Value) (i:Nat):∀ n,i<n->(two f g n)[i*2+1]?=some (g i)
 | 0,h=>by omega
 | n+1,h=>by
  rw [aBr]
  by_cases e:i=n
  ·subst e
   rw [List.getElem?_append_right (by rw [aBe];omega),aBe]
   simp
  ·rw [List.getElem?_append_left (by rw [aBe];omega)]
   exact aA2 f g i n (by omega)
theorem aDj {f g f' g':Nat->Value}:∀ n,(∀ i,i<n->f i=f' i/\g i=g' i)->two f g n=two f' g' n
 | 0,_=>rfl
 | n+1,h=>by rw [aBr,aBr,aDj n (fun i hi=>h i (by omega)),(h n (by omega)).1,(h n (by omega)).2]
def upd (f:Nat->Value) (i:Nat) (v:Value):Nat->Value:=fun j=>if j=i then v else f j
theorem aB1 (f:Nat->Value) (i:Nat) (v:Value):upd f i v i=v:=by simp [upd]
theorem upd_ne (f:Nat->Value) {i j:Nat} (v:Value) (h:j≠i):upd f i v j=f j:=by simp [upd,h]
theorem aDi (f g:Nat->Value) (i:Nat) (v:Value):∀ n,i<n->(two f g n).set (i*2) v=two (upd f i v) g n
 | 0,h=>by omega
 | n+1,h=>by
  rw [aBr,aBr]
  by_cases e:i=n
  ·subst e
   rw [List.set_append_right _ _ (by rw [aBe];exact nR _),aBe,Nat.sub_self,aB1]
   rw [aDj (f':=upd f i v) (g':=g) i (fun j hj=>⟨(upd_ne f v (Nat.ne_of_lt hj)).symm,rfl⟩)]
   rfl
  ·rw [List.set_append_left _ _ (by rw [aBe];omega),aDi f g i v n (by omega),upd_ne f v (by omega)]
theorem aC0 (f g:Nat->Value) (i:Nat) (v:Value):∀ n,i<n->(two f g n).set (i*2+1) v=two f (upd g i v) n
 | 0,h=>by omega
 | n+1,h=>by
  rw [aBr,aBr]
  by_cases e:i=n
  ·subst e
   rw [List.set_append_right _ _ (by rw [aBe];omega),aBe,show i*2+1-i*2=1 by omega,aB1]
   rw [aDj (f':=f) (g':=upd g i v) i (fun j hj=>⟨rfl,(upd_ne g v (Nat.ne_of_lt hj)).symm⟩)]
   rfl
  ·rw [List.set_append_left _ _ (by rw [aBe];omega),aC0 f g i v n (by omega),upd_ne g v (by omega)]
structure DS where
 kept:List (List Nat)
 opens:List (Nat×List Nat)
 after:Int
 keep:Nat
 torn:Int
 cut:Int
 down:Bool
 life:Int
def DS.n (s:DS):Nat:=s.kept.length
def DS.K (s:DS) (i:Nat):List Nat:=s.kept.getD i []
def DS.m (s:DS):Nat:=s.opens.length
def DS.at_ (s:DS) (i:Nat):Nat:=(s.opens.getD i (0,[])).1
def DS.by_ (s:DS) (i:Nat):List Nat:=(s.opens.getD i (0,[])).2
def DS.idx (s:DS) (b:Nat):List Nat:=(List.range s.m).filter fun i=>s.at_ i == b
structure DS.Ok (s:DS):Prop where
 n1:1<=s.n
 n2:s.n<=4096
 kl:∀ i,(s.K i).length<=blk
 kb:∀ i,∀ c∈s.K i,c<256
 at_:∀ i,i<s.m->s.at_ i<s.n
 bl:∀ i,(s.by_ i).length<=blk
 bb:∀ i,∀ c∈s.by_ i,c<256
 mm:s.m<=100000
 keep:s.keep<18446744073709551616
 after:s.after<=9223372036854775807
 life0:0<=s.life
 life1:s.life<=100000
def icells (l:List Nat):List Value:=l.map fun n=>.int .i64 (n:Nat)
def headV (gb:Nat) (vo:Value) (n:Nat) (after:Int) (keep:Nat) (torn cut:Int) (down:Bool) (life:Int):Array Value:=#[.slice (some ⟨gb,0,none⟩) n n,vo,.int .i64 after,.int .u64 (keep:Int),.int .i64 torn,.int .i64 cut,.bool down,.int .i64 life]
structure DV [Gd] (B p gb:Nat) (vo:Value) (kv ov wv:Nat->Value) (s:DS) (w:World):Prop where
 hp:w.heap[p]?=some (.cells (headV gb vo s.n s.after s.keep s.torn s.cut s.down s.life) 84 (0,0))
 hg:w.heap[gb]?=some (.cells (two kv ov s.n).toArray 167 (0,0))
 hw:w.ownsRow B 164 2 vo s.m (two (fun i=>.int .i64 (s.at_ i:Nat)) wv s.m)
 hk:∀ i,i<s.n->w.ownsRow B 5 1 (kv i) (s.K i).length (cellsOf (s.K i))
 hb:∀ i,i<s.m->w.ownsRow B 5 1 (wv i) (s.by_ i).length (cellsOf (s.by_ i))
 ho:∀ i,i<s.n->w.ownsRow B 3 1 (ov i) (s.idx i).length (icells (s.idx i))
 ha:∀ i j k,i<s.n->j<s.n->i≠j->(ov i).ownBlock=some k->(ov j).ownBlock≠some k
 pB:B<=p
 gB:B<=gb
 ok:s.Ok
 hG:∀ k,Gd.s k->FBk w k/\k≠p/\k≠gb/\vo.ownBlock≠some k/\∀ i,i<s.n->(ov i).ownBlock≠some k
theorem DV.later [Gd] {vo:Value} {kv ov wv:Nat->Value} {s:DS} (h:DV B p gb vo kv ov wv s w) (hb:Below w.heap.size w w'):DV B p gb vo kv ov wv s w' where
 hp:=(hb.block p (lO h.hp)).trans h.hp
 hg:=(hb.block gb (lO h.hg)).trans h.hg
 hw:=aAh h.hw hb
 hk:=fun i hi=>aAh (h.hk i hi) hb
 hb:=fun i hi=>aAh (h.hb i hi) hb
 ho:=fun i hi=>aAh (h.ho i hi) hb
 ha:=h.ha
 pB:=h.pB
 gB:=h.gB
 ok:=h.ok
 hG:=fun k hk=>⟨(h.hG k hk).1.same (hb.block k (h.hG k hk).1.lt),(h.hG k hk).2⟩
def DI [Gd] (B p:Nat) (s:DS) (w:World):Prop:=∃ gb vo kv ov wv,DV B p gb vo kv ov wv s w
theorem DI.later [Gd] {s:DS} (h:DI B p s w) (hb:Below w.heap.size w w'):DI B p s w':=by
 obtain ⟨gb,vo,kv,ov,wv,h⟩:=h;exact ⟨gb,vo,kv,ov,wv,h.later hb⟩
theorem DI.fb [Gd] {s:DS} (h:DI B p s w) (hk:Gd.s k):FBk w k:=by
 obtain ⟨gb,vo,kv,ov,wv,h⟩:=h;exact (h.hG k hk).1
theorem DI.ok [Gd] {s:DS} (h:DI B p s w):s.Ok:=by
 obtain ⟨gb,vo,kv,ov,wv,h⟩:=h;exact h.ok
structure Fr [Gd] (B:Nat) (w w':World):Prop where
 bel:Below B w w'
 stay:∀ (k:Nat) (cs:Array Value) (t:TypeId) (fz:Nat×Nat),w.heap[k]?=some (Obj.cells cs t fz)->t≠84->t≠167->t≠164->t≠3->w'.heap[k]?=some (Obj.cells cs t fz)
 gd:GdK w w'
theorem Fr.refl [Gd] (B:Nat) (w:World):Fr B w w:=⟨Below.refl _ _,fun _ _ _ _ h _ _ _ _=>h,GdK.refl w⟩
theorem Fr.trans [Gd] {a b c:World} (h:Fr B a b) (k:Fr B b c):Fr B a c:=⟨h.bel.trans k.bel,fun i cs t fz e n1 n2 n3 n4=>k.stay i cs t fz (h.stay i cs t fz e n1 n2 n3 n4) n1 n2 n3 n4,h.gd.trans k.gd⟩
theorem Fr.of [Gd] (h:Below w.heap.size w w') (hB:B<=w.heap.size):Fr B w w':=⟨h.mono hB,fun i cs t fz e _ _ _ _=>(h.block i (lO e)).trans e,GdK.of h⟩
theorem Fr.row [Gd] {B':Nat} {e:TypeId} {n:Nat} {xs:List Value} (f:Fr B w w') (h:w.ownsRow B' e size v n xs) (n1:e≠84) (n2:e≠167) (n3:e≠164) (n4:e≠3):w'.ownsRow B' e size v n xs:=by
 obtain ⟨h1,h2⟩:=h;refine ⟨h1,?_⟩;rcases h2 with h2 | ⟨g,cap,cur,hv,hg,hc,h3⟩
 ·exact Or.inl h2
 ·exact Or.inr ⟨g,cap,cur,hv,hg,f.stay g _ _ _ hc n1 n2 n3 n4,h3⟩
theorem Fr.bytes [Gd] {B':Nat} (f:Fr B w w') (h:w.ownsRow B' 5 1 v xs.length (cellsOf xs)):w'.ownsRow B' 5 1 v xs.length (cellsOf xs) :=
 f.row h (by decide) (by decide) (by decide) (by decide)
theorem Fr.one [Gd] {t:TypeId} (hg:w.heap[g]?=some (.cells cs t (0,0))) (hB:B<=g) (ht:t=84\/t=167\/t=164\/t=3) (hs0:¬ Gd.s g) (ho:w'.os=w.os) (htp:w'.tape=w.tape) (hou:w'.output=w.output) (hs:w.heap.size<=w'.heap.size) (hb:∀ k,k<w.heap.size->k≠g->w'.heap[k]?=w.heap[k]?):Fr B w w':=by
 have hlt:g<w.heap.size:=(lO hg);refine ⟨⟨ho,htp,hou,hs,fun k hk=>?_⟩,fun k cs' t' fz e n1 n2 n3 n4=>?_,fun k hgk hf=>hb k hf.lt (fun e=>hs0 (e ▸ hgk))⟩
 ·rcases Nat.lt_or_ge k w.heap.size with h | h
  ·exact hb k h (by omega)
  ·omega
 ·have hk:k≠g:=by
   intro e';subst e';rw [hg] at e;simp only [oI,cI] at e;rcases ht with h | h | h | h
   ·exact n1 (e.2.1.symm.trans h)
   ·exact n2 (e.2.1.symm.trans h)
   ·exact n3 (e.2.1.symm.trans h)
   ·exact n4 (e.2.1.symm.trans h)
  rw [hb k (lO e) hk,e]
theorem Fr.set [Gd] {t:TypeId} (hg:w.heap[g]?=some (.cells cs t (0,0))) (hB:B<=g) (ht:t=84\/t=167\/t=164\/False) (hs0:¬ Gd.s g) (o:Nat) (u:Value):Fr B w (w.setCell ⟨g,o,none⟩ u) :=
 Fr.one hg hB (ht.imp id (fun h=>h.imp id (fun h=>h.imp id False.elim))) hs0 rfl rfl rfl (by simp) (fun k _ hk=>heap_setCell_other w ⟨g,o,none⟩ k u hk)
theorem aAa {t:TypeId} (h:w.heap[p]?=some (.cells cs t (0,0))):w.cell? ⟨p,i,none⟩=cs[i]?:=cell_of_row w p i cs t (0,0) h
theorem aAb {t:TypeId} (h:w.heap[p]?=some (.cells cs t (0,0))):w.frozen? ⟨p,i,none⟩=false:=frozen_of_row w p i cs t h
section
variable {B p gb:Nat} {vo:Value} {kv ov wv:Nat->Value} {s:DS} {w:World}
theorem DV.c0 [Gd] (h:DV B p gb vo kv ov wv s w):w.cell? ⟨p,0,none⟩=some (.slice (some ⟨gb,0,none⟩) s.n s.n):=aAa h.hp
theorem DV.c1 [Gd] (h:DV B p gb vo kv ov wv s w):w.cell? ⟨p,1,none⟩=some vo:=aAa h.hp
theorem DV.c2 [Gd] (h:DV B p gb vo kv ov wv s w):w.cell? ⟨p,2,none⟩=some (.int .i64 s.after):=aAa h.hp
theorem DV.c3 [Gd] (h:DV B p gb vo kv ov wv s w):w.cell? ⟨p,3,none⟩=some (.int .u64 (s.keep:Int)):=aAa h.hp
theorem DV.c4 [Gd] (h:DV B p gb vo kv ov wv s w):w.cell? ⟨p,4,none⟩=some (.int .i64 s.torn):=aAa h.hp
theorem DV.c5 [Gd] (h:DV B p gb vo kv ov wv s w):w.cell? ⟨p,5,none⟩=some (.int .i64 s.cut):=aAa h.hp
theorem DV.c6 [Gd] (h:DV B p gb vo kv ov wv s w):w.cell? ⟨p,6,none⟩=some (.bool s.down):=aAa h.hp
theorem DV.c7 [Gd] (h:DV B p gb vo kv ov wv s w):w.cell? ⟨p,7,none⟩=some (.int .i64 s.life):=aAa h.hp
theorem DV.frz [Gd] (h:DV B p gb vo kv ov wv s w) (i:Nat):w.frozen? ⟨p,i,none⟩=false:=aAb h.hp
theorem DV.form [Gd] (h:DV B p gb vo kv ov wv s w):∃ a cap,vo=.slice a s.m cap/\s.m<=cap/\cap<=9223372036854775807/\(a=none->s.m=0/\cap=0):=by
 rcases h.hw.2 with ⟨e,e0⟩ | ⟨g,cap,cur,e,_,_,h2,h3,_⟩
 ·exact ⟨none,0,by rw [e,e0],by omega,by omega,fun _=>⟨e0,rfl⟩⟩
 ·unfold maxLen at h3;exact ⟨_,cap,e,h2,by omega,fun h=>by cases h⟩
end
theorem has_any [Gd] (B p:Nat) (s:DS) (at_:Int) (w:World) (h:DI B p s w) :
  Calls prog 156 #[.pointer (some ⟨p,0,none⟩),.int .i64 at_] w fun e w'=>e=.returned (.bool (decide (0<=at_/\at_<s.n)))/\w'=w:=by
 obtain ⟨gb,vo,kv,ov,wv,h⟩:=h;have c0:=h.c0;by_cases h1:0<=at_
 ·have d1:decide (0<=at_)=true:=decide_eq_true h1;by_cases h2:at_<s.n
  ·have d2:decide (at_<(s.n:Int))=true:=decide_eq_true h2;have HD:Hid (decide (0<=at_/\at_<s.n)=true):=decide_eq_true ⟨h1,h2⟩;generalize s.n=n at *
   clear h;go_enter func156,ntmps156;go_wp2;go_ret
   first | exact ⟨rfl,rfl⟩ | (rw [HD.o];exact ⟨rfl,rfl⟩)
  ·have d2:decide (at_<(s.n:Int))=false:=decide_eq_false h2;have HD:Hid (decide (0<=at_/\at_<s.n)=false):=decide_eq_false fun h=>h2 h.2
   generalize s.n=n at *
   clear h;go_enter func156,ntmps156;go_wp2;go_ret
   first | exact ⟨rfl,rfl⟩ | (rw [HD.o];exact ⟨rfl,rfl⟩)
 ·have d1:decide (0<=at_)=false:=decide_eq_false h1;have HD:Hid (decide (0<=at_/\at_<s.n)=false):=decide_eq_false fun h=>h1 h.1
  clear h;go_enter func156,ntmps156;go_wp2;go_ret
  first | exact ⟨rfl,rfl⟩ | (rw [HD.o];exact ⟨rfl,rfl⟩)
theorem life_any [Gd] (B p:Nat) (s:DS) (w:World) (h:DI B p s w) :
  Calls prog 113 #[.pointer (some ⟨p,0,none⟩)] w fun e w'=>e=.returned (.int .i64 s.life)/\w'=w:=by
 obtain ⟨gb,vo,kv,ov,wv,h⟩:=h;have c7:=h.c7;clear h;go_enter func113,ntmps113;go_wp2;go_ret;exact ⟨rfl,rfl⟩
theorem aCg [Gd] (B p:Nat) (s:DS) (w:World) (h:DI B p s w) :
  Calls prog 110 #[.pointer (some ⟨p,0,none⟩)] w fun e w'=>e=.returned (.int .i64 (s.n:Nat))/\w'=w:=by
 obtain ⟨gb,vo,kv,ov,wv,h⟩:=h;have c0:=h.c0;clear h;go_enter func110,ntmps110;go_wp2;go_ret;exact ⟨rfl,rfl⟩
def DS.new (n:Nat):DS:=⟨List.replicate n [],[],0,0,0,0,false,0⟩
theorem made_two (n:Nat):(madeCells (Value.agg #[.slice none 0 0,.slice none 0 0]).cells (n*2)).toList=two (fun _=>.slice none 0 0) (fun _=>.slice none 0 0) n:=by
 have h1:(madeCells (Value.agg #[.slice none 0 0,.slice none 0 0]).cells (n*2)).toList=List.replicate (n*2) (.slice none 0 0):=by
  rw [List.eq_replicate_iff];refine ⟨by simp [size_madeCells],fun b hb=>?_⟩;have e:(Value.agg #[.slice none 0 0,.slice none 0 0]).cells=#[.slice none 0 0,.slice none 0 0]:=rfl;rw [e] at hb;simp only [madeCells,Array.toList_map,List.mem_map] at hb;obtain ⟨j,_,rfl⟩:=hb;have:j % 2=0\/j % 2=1:=by omega
  rcases this with h | h<;>simp [h]
 have h2:two (fun _=>Value.slice none 0 0) (fun _=>.slice none 0 0) n=List.replicate (n*2) (.slice none 0 0):=by
  rw [List.eq_replicate_iff];refine ⟨aBe _ _ n,fun b hb=>?_⟩;simp only [two,List.mem_flatMap,List.mem_cons,List.not_mem_nil,or_false] at hb;obtain ⟨_,_,h⟩:=hb;exact h.elim id id
 rw [h1,h2]
theorem info_block:(prog.info? 167).map (fun i=>(i.zero,i.size,i.bytes))=some (some (.agg #[.slice none 0 0,.slice none 0 0]),2,48):=by kernel_rfl
theorem new_K (n i:Nat):(DS.new n).K i=[]:=by
 simp only [DS.K,DS.new,List.getD_eq_getElem?_getD,List.getElem?_replicate]
 split<;>rfl
theorem new_by (n i:Nat):(DS.new n).by_ i=[]:=rfl
theorem new_ok {n:Nat} (h1:1<=n) (h2:n<=4096):(DS.new n).Ok where
 n1:=by simpa [DS.n,DS.new] using h1
 n2:=by simpa [DS.n,DS.new] using h2
 kl:=fun i=>by rw [new_K];exact Nat.zero_le _
 kb:=fun i c hc=>by rw [new_K] at hc;cases hc
 at_:=fun i hi=>by simp [DS.m,DS.new] at hi
 bl:=fun i=>by rw [new_by];exact Nat.zero_le _
 bb:=fun i c hc=>by rw [new_by] at hc;cases hc
 mm:=by simp [DS.m,DS.new]
 keep:=by simp [DS.new]
 after:=by simp [DS.new]
 life0:=by simp [DS.new]
 life1:=by simp [DS.new]
theorem aGr {n:Nat} {e:TypeId} {xs:List Value} (h:w.ownsRow B e 2 (.slice (some ⟨g,0,none⟩) n n) n xs):w.heap[g]?=some (.cells xs.toArray e (0,0))/\B<=g:=by
 rcases h.2 with ⟨e,_⟩ | ⟨g',cap,cur,e,h1,h2,h3,h4,h5,h6⟩
 ·cases e
 ·simp only [Value.slice.injEq,oI,Addr.mk.injEq,and_true,true_and] at e;obtain ⟨rfl,rfl⟩:=e;refine ⟨?_,h1⟩;rw [h2,<-h6]
  congr 2
  apply Array.toList_inj.1;simp only;rw [List.take_of_length_le (by simp;omega)]
theorem new_any [Gd] (B n:Nat) (w:World) (h1:1<=n) (h2:n<=4096) (hB:B<=w.heap.size) (hN:∀ k,Gd.s k->FBk w k) :
  Calls prog 16 #[.int .i64 (n:Int)] w fun e w'=>∃ p,e=.returned (.tuple #[.pointer (some ⟨p,0,none⟩),.int .i64 0])/\DI B p (DS.new n) w'/\Below w.heap.size w w':=by
 obtain ⟨i0,hi,hz0,hz1,hz2⟩:=info_parts info_block;have HM:=zH (made_two n);have HOK:=zH (new_ok h1 h2);have d1:decide ((n:Int)<1)=false:=decide_eq_false (by omega);have d2:decide ((4096:Int)<(n:Int))=false:=decide_eq_false (by omega);go_enter func16,ntmps16;go_wp2_with (refine wpList_make_full w rfl _ _ 78 rfl w.heap.size 167 i0 (.agg #[.slice none 0 0,.slice none 0 0]) 2 underlying78 hi hz0 hz1 .i64 .i64 n n n rfl rfl rfl rfl (by rw [hz2];omega) (by unfold maxLen;omega) (nR _) ?_;intro w1 ho1 hg1;rw [HM.o] at ho1;have HO1:=zH (aGr ho1);have HG1:=zH ((Below.refl w.heap.size w).grown hg1 (nR _) (fun k hk=>by cases hk));clear ho1 hg1);go_ret2;have HB2:=HG1.o.alloc HG1.o.size (.cells #[.slice (some ⟨w.heap.size,0,none⟩) n n,.slice none 0 0,.int .i64 0,.int .u64 0,.int .i64 0,.int .i64 0,.bool false,.int .i64 0] 84);have e:(DS.new n).n=n:=by simp [DS.n,DS.new]
 refine ⟨w1.heap.size,rfl,⟨w.heap.size,.slice none 0 0,fun _=>.slice none 0 0,fun _=>.slice none 0 0,fun _=>.slice none 0 0,?_⟩,HB2⟩;refine ⟨?_,?_,World.ownsRow_nil _ _ _ _,?_,?_,?_,?_,nT hB HG1.o.size,hB,HOK.o,fun k hk=>⟨(hN k hk).same (HB2.block k (hN k hk).lt),by have:=(hN k hk).lt;have:=HG1.o.size;omega,by have:=(hN k hk).lt;omega,(fun e=>by cases e),fun i _ e=>by cases e⟩⟩
 ·rw [e];exact heap_alloc_new w1 _
 ·rw [e,Below.heap_alloc _ _ _ (lO HO1.o.1)];exact HO1.o.1
 ·intro i _;rw [new_K];exact World.ownsRow_nil _ _ _ _
 ·intro i hi;simp [DS.m,DS.new] at hi
 ·intro i _;exact World.ownsRow_nil _ _ _ _
 ·intro i j k _ _ _ h;cases h
def DS.setK (s:DS) (keep:Nat) (torn cut:Int):Nat->Nat->List Nat
 | 0,i=>s.K i
 | k+1,i=>if i=s.at_ k then laidL (s.setK keep torn cut k i) (s.by_ k) (keptN keep torn cut k) else s.setK keep torn cut k i
theorem aHr (keep:Nat) (torn cut:Int) (i:Nat):keptN keep torn cut i<=blk:=by
 unfold keptN blk;split
 ·omega
 ·split<;>omega
theorem aDm {s:DS} (h:s.Ok) (keep:Nat) (torn cut:Int) (i:Nat):∀ k,(s.setK keep torn cut k i).length<=blk
 | 0=>h.kl i
 | k+1=>by
  rw [DS.setK]
  split
  ·exact laidL_len (aDm h keep torn cut i k) (h.bl k) (aHr _ _ _ _)
  ·exact aDm h keep torn cut i k
theorem aFh {s:DS} (h:s.Ok) (keep:Nat) (torn cut:Int) (i:Nat):∀ k,∀ c∈s.setK keep torn cut k i,c<256
 | 0=>h.kb i
 | k+1=>by
  rw [DS.setK]
  split
  ·exact laidL_lt (aFh h keep torn cut i k) (h.bb k)
  ·exact aFh h keep torn cut i k
def DS.settle (s:DS) (keep:Nat) (torn cut:Int):DS:={ s with kept:=(List.range s.n).map (s.setK keep torn cut s.m),opens:=[] }
theorem aBx (s:DS) (keep:Nat) (torn cut:Int):(s.settle keep torn cut).n=s.n:=by simp [DS.settle,DS.n]
theorem aE6 (s:DS) (keep:Nat) (torn cut:Int) (i:Nat) (h:i<s.n):(s.settle keep torn cut).K i=s.setK keep torn cut s.m i:=by
 simp [DS.settle,DS.K,List.getD_eq_getElem?_getD,h]
theorem settle_K0 (s:DS) (keep:Nat) (torn cut:Int) (i:Nat) (h:¬ i<s.n):(s.settle keep torn cut).K i=[]:=by
 simp only [DS.settle,DS.K,List.getD_eq_getElem?_getD];rw [List.getElem?_eq_none (by simp;omega)];rfl
theorem settle_ok {s:DS} (h:s.Ok) (keep:Nat) (torn cut:Int):(s.settle keep torn cut).Ok where
 n1:=by rw [aBx];exact h.n1
 n2:=by rw [aBx];exact h.n2
 kl:=fun i=>by
  by_cases hi:i<s.n
  ·rw [aE6 _ _ _ _ _ hi];exact aDm h _ _ _ _ _
  ·rw [settle_K0 _ _ _ _ _ hi];exact Nat.zero_le _
 kb:=fun i c hc=>by
  by_cases hi:i<s.n
  ·rw [aE6 _ _ _ _ _ hi] at hc;exact aFh h _ _ _ _ _ c hc
  ·rw [settle_K0 _ _ _ _ _ hi] at hc;cases hc
 at_:=fun i hi=>by simp [DS.m,DS.settle] at hi
 bl:=fun i=>by simp [DS.by_,DS.settle]
 bb:=fun i c hc=>by simp [DS.by_,DS.settle] at hc
 mm:=by simp [DS.m,DS.settle]
 keep:=h.keep
 after:=h.after
 life0:=h.life0
 life1:=h.life1
structure SW [Gd] (B p gb L:Nat) (vo:Value) (ov wv:Nat->Value) (s:DS) (a:Int) (keep:Nat) (torn cut:Int) (w:World) (k:Nat) (kv' ov':Nat->Value) (wr:World):Prop where
 hp:wr.heap[p]?=some (.cells (headV gb vo s.n s.after s.keep s.torn s.cut s.down s.life) 84 (0,0))
 hg:wr.heap[gb]?=some (.cells (two kv' ov' s.n).toArray 167 (0,0))
 hw:wr.ownsRow B 164 2 vo s.m (two (fun i=>.int .i64 (s.at_ i:Nat)) wv s.m)
 hb:∀ i,i<s.m->wr.ownsRow B 5 1 (wv i) (s.by_ i).length (cellsOf (s.by_ i))
 hk:∀ i,i<s.n->wr.ownsRow B 5 1 (kv' i) (s.setK keep torn cut k i).length (cellsOf (s.setK keep torn cut k i))
 gone:∀ i,i<s.n->∀ j,j<k->s.at_ j=i->ov' i=.slice none 0 0
 old:∀ i,i<s.n->(∀ j,j<k->s.at_ j≠i)->ov' i=ov i
 hl:wr.heap[L]?=some (.cells #[.int .i64 a,.int .u64 (keep:Int),.int .i64 torn,.int .i64 cut] 82 (0,0))
 fr:Fr B w wr
 ints:∀ i,i<s.n->wr.ownsRow B 3 1 (ov i) (s.idx i).length (icells (s.idx i))
section
variable {B p gb L:Nat} {vo:Value} {ov wv kv' ov':Nat->Value} {s:DS} {a:Int} {keep:Nat} {torn cut:Int} {w wr w2:World} {k:Nat}
theorem SW.later [Gd] (h:SW B p gb L vo ov wv s a keep torn cut w k kv' ov' wr) (hb:Below wr.heap.size wr w2) (hB:B<=wr.heap.size):SW B p gb L vo ov wv s a keep torn cut w k kv' ov' w2 where
 hp:=(hb.block p (lO h.hp)).trans h.hp
 hg:=(hb.block gb (lO h.hg)).trans h.hg
 hw:=aAh h.hw hb
 hb:=fun i hi=>aAh (h.hb i hi) hb
 hk:=fun i hi=>aAh (h.hk i hi) hb
 gone:=h.gone
 old:=h.old
 hl:=(hb.block L (lO h.hl)).trans h.hl
 fr:=h.fr.trans (Fr.of hb hB)
 ints:=fun i hi=>aAh (h.ints i hi) hb
theorem SW.step [Gd] (h:SW B p gb L vo ov wv s a keep torn cut w k kv' ov' wr) (hk:k<s.m) (ok:s.Ok) (gB:B<=gb) (hs0:¬ Gd.s gb) {v:Value}
  (hv:wr.ownsRow B 5 1 v (laidL (s.setK keep torn cut k (s.at_ k)) (s.by_ k) (keptN keep torn cut k)).length (cellsOf (laidL (s.setK keep torn cut k (s.at_ k)) (s.by_ k) (keptN keep torn cut k)))) :
  SW B p gb L vo ov wv s a keep torn cut w (k+1) (upd kv' (s.at_ k) v) (upd ov' (s.at_ k) (.slice none 0 0)) ((wr.setCell ⟨gb,s.at_ k*2,none⟩ v).setCell ⟨gb,s.at_ k*2+1,none⟩ (.slice none 0 0)):=by
 have hat:=ok.at_ k hk;have g1:=heap_setCell_same wr gb (s.at_ k*2) _ _ v h.hg;have g2:=heap_setCell_same _ gb (s.at_ k*2+1) _ _ (.slice none 0 0) g1;have f1:Fr B wr (wr.setCell ⟨gb,s.at_ k*2,none⟩ v):=Fr.set h.hg gB (Or.inr (Or.inl rfl)) hs0 _ _;have f2:Fr B (wr.setCell ⟨gb,s.at_ k*2,none⟩ v) ((wr.setCell ⟨gb,s.at_ k*2,none⟩ v).setCell ⟨gb,s.at_ k*2+1,none⟩ (.slice none 0 0)):=Fr.set g1 gB (Or.inr (Or.inl rfl)) hs0 _ _;have f:=f1.trans f2;have oth:∀ i,i≠gb->((wr.setCell ⟨gb,s.at_ k*2,none⟩ v).setCell ⟨gb,s.at_ k*2+1,none⟩ (.slice none 0 0)).heap[i]?=wr.heap[i]?:=fun i hi=>by
  rw [heap_setCell_other _ _ _ _ hi,heap_setCell_other _ _ _ _ hi]
 have ne:∀ {i:Nat} {cs:Array Value} {t:TypeId},wr.heap[i]?=some (.cells cs t (0,0))->t≠167->i≠gb:=by
  intro i cs t e ht e2;subst e2;rw [h.hg] at e;simp only [oI,cI] at e;exact ht e.2.1.symm
 refine ⟨?_,?_,?_,?_,?_,?_,?_,?_,h.fr.trans f,?_⟩
 ·rw [oth p (ne h.hp (by decide))];exact h.hp
 ·rw [g2]
  congr 2
  apply Array.toList_inj.1;rw [Array.toList_setIfInBounds,Array.toList_setIfInBounds,aDi _ _ _ _ _ hat,aC0 _ _ _ _ _ hat]
 ·obtain ⟨h1,h2⟩:=h.hw;refine ⟨h1,?_⟩;rcases h2 with h2 | ⟨g,cap,cur,hv,hg,hc,h3⟩
  ·exact Or.inl h2
  ·exact Or.inr ⟨g,cap,cur,hv,hg,by rw [oth g (ne hc (by decide))];exact hc,h3⟩
 ·exact fun i hi=>f.bytes (h.hb i hi)
 ·intro i hi;rw [DS.setK];by_cases e:i=s.at_ k
  ·rw [if_pos e,e,aB1];exact f.bytes hv
  ·rw [if_neg e,upd_ne _ _ e];exact f.bytes (h.hk i hi)
 ·intro i hi j hj e;by_cases e2:i=s.at_ k
  ·rw [e2,aB1]
  ·rw [upd_ne _ _ e2];refine h.gone i hi j ?_ e;rcases Nat.lt_or_ge j k with h | h
   ·exact h
   ·have:j=k:=by omega
    subst this;exact absurd e.symm e2
 ·intro i hi hn;rw [upd_ne _ _ (fun e=>hn k (by omega) e.symm)];exact h.old i hi fun j hj=>hn j (by omega)
 ·rw [oth L (ne h.hl (by decide))];exact h.hl
 ·intro i hi;obtain ⟨h1,h2⟩:=h.ints i hi;refine ⟨h1,?_⟩;rcases h2 with h2 | ⟨g,cap,cur,hv,hg,hc,h3⟩
  ·exact Or.inl h2
  ·exact Or.inr ⟨g,cap,cur,hv,hg,by rw [oth g (ne hc (by decide))];exact hc,h3⟩
end
theorem SW.start [Gd] {vo:Value} {kv ov wv:Nat->Value} {s:DS} (h:DV B p gb vo kv ov wv s w) (hB:B<=w.heap.size) (a:Int) (keep:Nat) (torn cut:Int) :
  SW B p gb w.heap.size vo ov wv s a keep torn cut w 0 kv ov (w.alloc (.cells #[.int .i64 a,.int .u64 (keep:Int),.int .i64 torn,.int .i64 cut] 82)):=by
 have hb:Below w.heap.size w (w.alloc (.cells #[.int .i64 a,.int .u64 (keep:Int),.int .i64 torn,.int .i64 cut] 82)):=(Below.refl _ _).alloc (nR _) _;have h':=h.later hb;exact ⟨h'.hp,h'.hg,h'.hw,h'.hb,h'.hk,fun _ _ j hj=>by omega,fun _ _ _=>rfl,heap_alloc_new w _,Fr.of hb hB,h'.ho⟩
theorem SW.done [Gd] {L:Nat} {vo:Value} {kv ov wv kv' ov':Nat->Value} {s:DS} {a:Int} {keep:Nat} {torn cut:Int} (d:DV B p gb vo kv ov wv s w) (h:SW B p gb L vo ov wv s a keep torn cut w s.m kv' ov' wr) :
  DI B p (s.settle keep torn cut) (wr.setCell ⟨p,1,none⟩ (.slice none 0 0))/\Fr B w (wr.setCell ⟨p,1,none⟩ (.slice none 0 0)):=by
 have f1:Fr B wr (wr.setCell ⟨p,1,none⟩ (.slice none 0 0)):=Fr.set h.hp d.pB (Or.inl rfl) (fun e=>(d.hG p e).2.1 rfl) _ _;have f:=h.fr.trans f1;have oth:∀ i,i≠p->(wr.setCell ⟨p,1,none⟩ (.slice none 0 0)).heap[i]?=wr.heap[i]?:=fun i hi=>heap_setCell_other _ _ _ _ hi
 refine ⟨⟨gb,.slice none 0 0,kv',ov',wv,?_⟩,f⟩;have hov:∀ i,i<s.n->ov' i=.slice none 0 0\/(ov' i=ov i/\s.idx i=[]):=by
  intro i hi;by_cases hx:∃ j,j<s.m/\s.at_ j=i
  ·obtain ⟨j,hj,e⟩:=hx;exact Or.inl (h.gone i hi j hj e)
  ·refine Or.inr ⟨h.old i hi fun j hj e=>hx ⟨j,hj,e⟩,?_⟩;rw [DS.idx,List.filter_eq_nil_iff];intro j hj;rw [List.mem_range] at hj;simp only [beq_iff_eq];exact fun e=>hx ⟨j,hj,e⟩
 have g1:=heap_setCell_same wr p 1 _ _ (.slice none 0 0) h.hp;have ne:∀ {i:Nat} {cs:Array Value} {t:TypeId},wr.heap[i]?=some (.cells cs t (0,0))->t≠84->i≠p:=by
  intro i cs t e ht e2;subst e2;rw [h.hp] at e;simp only [oI,cI] at e;exact ht e.2.1.symm
 refine ⟨?_,?_,World.ownsRow_nil _ _ _ _,?_,?_,?_,?_,d.pB,d.gB,settle_ok d.ok keep torn cut,fun k hk=>⟨(d.hG k hk).1.same (f.gd k hk (d.hG k hk).1),(d.hG k hk).2.1,(d.hG k hk).2.2.1,(fun e=>by cases e),fun i hi=>by
  rw [aBx] at hi;rcases hov i hi with e1 | ⟨e1,_⟩
  ·rw [e1];intro e;cases e
  ·rw [e1];exact (d.hG k hk).2.2.2.2 i hi⟩⟩
 ·rw [g1,aBx];rfl
 ·rw [oth gb (ne h.hg (by decide)),aBx];exact h.hg
 ·intro i hi;rw [aBx] at hi;rw [aE6 _ _ _ _ _ hi];exact f1.bytes (h.hk i hi)
 ·intro i hi;simp [DS.m,DS.settle] at hi
 ·intro i hi;rw [aBx] at hi;have e:(s.settle keep torn cut).idx i=[]:=rfl;rw [e];rcases hov i hi with e1 | ⟨e1,e2⟩
  ·rw [e1];exact World.ownsRow_nil _ _ _ _
  ·have h0:=h.ints i hi;rw [e2] at h0;rw [e1];obtain ⟨h1,h2⟩:=h0;refine ⟨h1,?_⟩;rcases h2 with h2 | ⟨g,cap,cur,hv,hg,hc,h3⟩
   ·exact Or.inl h2
   ·exact Or.inr ⟨g,cap,cur,hv,hg,by rw [oth g (ne hc (by decide))];exact hc,h3⟩
 ·intro i j k hi hj hij e;rw [aBx] at hi hj;rcases hov i hi with e1 | ⟨e1,_⟩
  ·rw [e1] at e;cases e
  ·rcases hov j hj with e2 | ⟨e2,_⟩
   ·rw [e2];intro e3;cases e3
   ·rw [e2];rw [e1] at e;exact d.ha i j k hi hj hij e
end Go.Proofs.YtdfjjhlhnfindaaGreat
