import Derived.Test.YtdpdjpkmndnaaaaGreatProg
import Derived.WalkKit
import Derived.WalkSpells
import Derived.WalkLawsBesides
import Derived.Laws.BytesArg
import Derived.Maps.AppendAt
import Derived.Laws.AppendOwnNone
import Derived.Laws.CopyOwn
set_option maxRecDepth 100000
set_option maxHeartbeats 16000000
namespace Go.Proofs.YtdpdjpkmndnaaaaGreat
open Go.RowKit Tryz
variable {B b c cap g i len o:Nat} {a:Option Addr} {t:TypeId} {v:Value} {w w':World} {xs:List Nat}
theorem lO {α:Type} {xs:Array α} {a:α} (h:xs[i]?=some a):i<xs.size:=(Array.getElem?_eq_some_iff.1 h).1
theorem nT {a:Nat} (h:a<=b) (k:b<=c):a<=c:=Nat.le_trans h k
theorem nR (n:Nat):n<=n:=Nat.le_refl n
theorem gE {α:Type} {l:List α} (h:i<l.length):l[i]?=some l[i]:=List.getElem?_eq_getElem h
theorem mG {α:Type} {l:List α} {a:α} (h:l[i]?=some a):a∈l:=List.mem_of_getElem? h
theorem lA {α:Type} {xs ys:List α}:(xs++ys).length=xs.length+ys.length:=List.length_append
theorem oI {α:Type} {a b:α}:(some a=some b)=(a=b):=Option.some.injEq a b
theorem cI {a c:Array Value} {u:TypeId} {f g:Nat×Nat}:(Obj.cells a t f=Obj.cells c u g)=(a=c/\t=u/\f=g):=Obj.cells.injEq a t f c u g
theorem lL {α:Type} {l:List α} {a:α} (h:l[i]?=some a):i<l.length:=(List.getElem?_eq_some_iff.1 h).1
structure BS (w:World) (a:Option Addr) (len cap:Nat) (xs:List Nat):Prop where
 hlen:xs.length=len
 hcap:len<=cap
 hroom:len<=140737488355328
 hmax:cap<=9223372036854775807
 hbyte:∀ n∈xs,n<256
 hnil:a=none->cap=0
 hcell:∀ x,a=some x->∀ i,i<len->w.cell? (x.add i)=some (.int .u8 (xs.getD i 0:Nat))
theorem aEt (h:∀ n∈xs,n<256) (i:Nat):xs.getD i 0<256:=by
 rw [List.getD_eq_getElem?_getD];rcases Nat.lt_or_ge i xs.length with hi | hi
 ·rw [gE hi];exact h _ (List.getElem_mem hi)
 ·rw [List.getElem?_eq_none hi];decide
theorem aAn {a:Addr} (h:w.cell? a=some v):a.block<w.heap.size:=by
 rcases Nat.lt_or_ge a.block w.heap.size with hb | hb
 ·exact hb
 ·simp [World.cell?,Array.getElem?_eq_none hb] at h
theorem add_plain (b o i:Nat):(⟨b,o,none⟩:Addr).add i=⟨b,o+i,none⟩:=by unfold Addr.add;split<;>simp_all
theorem BS.place (h:BS w a len cap xs) (h0:0<len) :
  ∃ b o,a=some ⟨b,o,none⟩/\b<w.heap.size/\∀ i,i<len->w.cell? ⟨b,o+i,none⟩=some (.int .u8 (xs.getD i 0:Nat)):=by
 cases a with
 | none=>have:=h.hnil rfl;have:=h.hcap;omega
 | some x =>
  obtain ⟨b,o,s⟩:=x;have hc:=h.hcell _ rfl 0 h0;have hs:s=none:=by simpa [Addr.add] using World.cell?_spot hc
  subst hs;have hcell:∀ i,i<len->w.cell? ⟨b,o+i,none⟩=some (.int .u8 (xs.getD i 0:Nat)):=fun i hi=>by
   have:=h.hcell _ rfl i hi;rwa [add_plain] at this
  exact ⟨b,o,rfl,aAn (hcell 0 h0),hcell⟩
theorem BS.later (h:BS w a len cap xs) (hb:Below B w w') (hB:w.heap.size<=B):BS w' a len cap xs:=by
 refine ⟨h.hlen,h.hcap,h.hroom,h.hmax,h.hbyte,h.hnil,fun x hx i hi=>?_⟩;have hc:=h.hcell x hx i hi;rw [<-hc];exact hb.cell (Nat.lt_of_lt_of_le (aAn hc) hB)
theorem BS.none (w:World) (a:Option Addr) (cap:Nat) (hr:cap<=9223372036854775807) (hn:a=Option.none->cap=0):BS w a 0 cap [] :=
 ⟨rfl,Nat.zero_le _,Nat.zero_le _,hr,by simp,hn,fun _ _ _ h=>absurd h (by omega)⟩
theorem BS.of (hl:xs.length=len) (hc:len<=cap) (hr:len<=140737488355328) (hm:cap<=9223372036854775807) (hb:∀ n∈xs,n<256)
  (hcell:∀ i,i<len->w.cell? ⟨b,o+i,Option.none⟩=some (.int .u8 (xs.getD i 0:Nat))):BS w (some ⟨b,o,Option.none⟩) len cap xs :=
 ⟨hl,hc,hr,hm,hb,by simp,fun x hx i hi=>by simp at hx;subst hx;rw [add_plain];exact hcell i hi⟩
def str (xs:List Nat):ByteArray:=strOfNums (xs.map Int.ofNat)
theorem getD_map (xs:List Nat) (i:Nat):(xs.map Int.ofNat).getD i 0=((xs.getD i 0:Nat):Int):=by
 simp only [List.getD_eq_getElem?_getD,List.getElem?_map]
 cases xs[i]?<;>rfl
theorem run_text (h:BS w a len cap xs) :
  (convert 97 9 (.slice a len cap)).run prog w=.ok (.string (str xs)) w:=by
 rcases Nat.eq_zero_or_pos len with h0 | h0
 ·have hx:xs=[]:=List.eq_nil_of_length_eq_zero (by have:=h.hlen;omega);subst hx h0
  cases a with
  | none=>exact run_convert_bytes_nil w _ _ underlying97 underlying5 0 cap _ underlying9
  | some x =>
   rw [run_convert_bytes_string w _ _ _ _ 0 cap underlying97 underlying5 underlying9];rw [run_bytesToString w x 0 cap [] (by simpa using run_loadCells_list (P:=prog) w x [] (by simp))];rfl
 ·obtain ⟨b,o,rfl,_,hc⟩:=h.place h0;exact run_convert_bytes_arg w _ _ underlying97 underlying5 b o len cap (xs.map Int.ofNat) (by simpa using h.hlen) (fun i hi=>by rw [getD_map];exact hc i hi) _ underlying9
def cellsOf (xs:List Nat):List Value:=xs.map fun (n:Nat)=>Value.int .u8 (n:Int)
theorem aAl (xs:List Nat):(cellsOf xs).length=xs.length:=by simp [cellsOf]
theorem aAy (xs ys:List Nat):cellsOf (xs++ys)=cellsOf xs++cellsOf ys:=by simp [cellsOf]
theorem aA4 (xs:List Nat):∀ u∈cellsOf xs,u.oneCell'=true:=by
 intro u hu;simp only [cellsOf,List.mem_map] at hu;obtain ⟨n,_,rfl⟩:=hu;rfl
theorem aBf (xs:List Nat) (j:Nat) (hj:j<xs.length):(cellsOf xs)[j]?=some (.int .u8 (xs.getD j 0:Nat)):=by
 simp [cellsOf,hj]
theorem BS.news {x:Addr} (h:BS w (some x) len cap xs):∀ j u,(cellsOf xs)[j]?=some u->w.cell? (x.add j)=some u:=by
 intro j u hu;have hj:j<xs.length:=by
  rcases Nat.lt_or_ge j xs.length with hj | hj
  ·exact hj
  ·rw [List.getElem?_eq_none (by simpa [aAl] using hj)] at hu;simp at hu
 rw [aBf xs j hj] at hu;rw [h.hcell x rfl j (by have:=h.hlen;omega)];exact hu
theorem BS.ofOwns {base:Nat} (h:w.ownsRow base 5 1 (.slice (some ⟨g,0,Option.none⟩) len cap) len (cellsOf xs)) (hr:len<=140737488355328) (hb:∀ n∈xs,n<256) :
  BS w (some ⟨g,0,Option.none⟩) len cap xs:=by
 have hl:xs.length=len:=by have:=h.1;simpa [aAl] using this
 obtain ⟨hcap,hmax⟩:len<=cap/\cap<=maxLen:=by
  rcases h.2 with ⟨h1,_⟩ | ⟨g',cap',cur,hv,_,_,h1,h2,_⟩
  ·simp at h1
  ·simp at hv;obtain ⟨_,rfl⟩:=hv;exact ⟨h1,h2⟩
 unfold maxLen at hmax;refine BS.of hl hcap hr (by omega) hb (fun i hi=>?_);rw [Nat.zero_add,h.cellAt i (by omega),aBf xs i (by omega)]
theorem aFw:(prog.info? 5).map (fun i=>(i.zero,i.size,i.bytes))=some (some (.int .u8 0),1,1):=by kernel_rfl
end Go.Proofs.YtdpdjpkmndnaaaaGreat
set_option linter.unusedVariables false
namespace Go.Proofs.YtdpdjpkmndnaaaaGreat
open Go.RowKit Tryz
variable {B cap g i k len p size:Nat} {a:Option Addr} {e t:TypeId} {v:Value} {w w':World} {xs:List Nat}
theorem zH {p:Prop} (h:p):Hid p:=h
theorem _root_.Go.RowKit.Hid.o {p:Prop} (h:Hid p):p:=h
def zs (n:Nat):List Nat:=List.replicate n 0
theorem aI0 (n:Nat):(zs n).length=n:=by simp [zs]
def blk:Nat:=8192
def pad (xs:List Nat):List Nat:=xs++zs (blk-xs.length)
theorem aJ4 (h:xs.length<=blk):(pad xs).length=blk:=by rw [pad,lA,aI0];omega
theorem zs_lt (n:Nat):∀ c∈zs n,c<256:=by
 intro c hc;simp only [zs,List.mem_replicate] at hc;omega
theorem aHv (h:∀ n∈xs,n<256):∀ n∈pad xs,n<256:=by
 intro n hn;simp only [pad,List.mem_append] at hn;exact hn.elim (h n) (zs_lt _ n)
theorem zs_drop (n k:Nat):(zs n).drop k=zs (n-k):=by simp [zs]
theorem aEh (n:Nat):(madeCells (Value.int .u8 0).cells (n*1)).toList=cellsOf (zs n):=by
 have:(Value.int .u8 0).cells=#[.int .u8 0]:=rfl;rw [this,Nat.mul_one,toList_madeCells_one];simp [cellsOf,zs]
theorem cellsOf_drop (xs:List Nat) (k:Nat):(cellsOf xs).drop k=cellsOf (xs.drop k):=by simp [cellsOf]
theorem aI4 (xs:List Nat):splice (cellsOf (zs blk)) 0 (cellsOf xs)=cellsOf (pad xs):=by
 rw [splice,List.take_zero,List.nil_append,aAl,cellsOf_drop,zs_drop,Nat.zero_add,pad,aAy]
theorem aJk (h:w.ownsRow B 5 1 v xs.length (cellsOf xs)) (hr:xs.length<=140737488355328) (hb:∀ n∈xs,n<256):∃ a cap,v=.slice a xs.length cap/\BS w a xs.length cap xs:=by
 rcases h.2 with ⟨rfl,h0⟩ | ⟨g,cap,cur,rfl,_⟩
 ·have e:xs=[]:=List.eq_nil_of_length_eq_zero h0;subst e;exact ⟨none,0,rfl,BS.none w none 0 (by omega) (fun _=>rfl)⟩
 ·exact ⟨some ⟨g,0,none⟩,cap,rfl,BS.ofOwns h hr hb⟩
theorem bs_take (h:BS w a len cap xs) (p:Nat) (hp:p<=len):BS w a p cap (xs.take p):=by
 have h1:=h.hlen;have h2:=h.hcap;have h3:=h.hroom;refine ⟨by rw [List.length_take];omega,by omega,by omega,h.hmax,fun n hn=>h.hbyte n (List.mem_of_mem_take hn),h.hnil,fun x hx i hi=>?_⟩;rw [h.hcell x hx i (by omega)]
 congr 3
 simp [List.getD,hi]
theorem aFl {n:Nat} (h:w.ownsRow B 5 1 (.slice (some ⟨g,0,none⟩) n n) n (cellsOf xs)):w.heap[g]?=some (.cells (cellsOf xs).toArray 5 (0,0))/\B<=g:=by
 rcases h.2 with ⟨e,_⟩ | ⟨g',cap,cur,e,h1,h2,h3,h4,h5,h6⟩
 ·cases e
 ·simp only [Value.slice.injEq,oI,Addr.mk.injEq,and_true,true_and] at e;obtain ⟨rfl,rfl⟩:=e;refine ⟨?_,h1⟩;rw [h2,<-h6]
  congr 2
  apply Array.toList_inj.1;simp only;rw [List.take_of_length_le (by simp;omega)]
theorem aHh {n:Nat} (h:w.heap[g]?=some (.cells (cellsOf xs).toArray 5 (0,0))) (hg:B<=g) (hn:xs.length=n) (hm:n<=maxLen):w.ownsRow B 5 1 (.slice (some ⟨g,0,none⟩) n n) n (cellsOf xs):=by
 refine ⟨by rw [aAl];omega,Or.inr ⟨g,n,_,rfl,hg,h,Nat.le_refl _,hm,by simp [aAl];omega,?_⟩⟩;exact List.take_of_length_le (by simp [aAl];omega)
theorem bs_src (h:BS w a len cap xs):0<(cellsOf xs).length->∃ ad,a=some ad/\∀ j v,(cellsOf xs)[j]?=some v->w.cell? (ad.add j)=some v:=by
 intro h0;rw [aAl,h.hlen] at h0;obtain ⟨b,o,rfl,_⟩:=h.place h0;exact ⟨_,rfl,h.news⟩
theorem whole_any (a:Option Addr) (len cap:Nat) (xs:List Nat) (w:World) (h:BS w a len cap xs) (hl:len<=blk) :
  Calls prog 211 #[.slice a len cap] w fun e w'=>e=.returned (.slice (some ⟨w.heap.size,0,none⟩) blk blk)/\w'.ownsRow w.heap.size 5 1 (.slice (some ⟨w.heap.size,0,none⟩) blk blk) blk (cellsOf (pad xs))/\Below w.heap.size w w':=by
 obtain ⟨i0,hi,hz0,hz1,hz2⟩:=info_parts aFw;have H:=zH h;have HL:=zH h.hlen;have HM:=zH (aEh blk);have HPL:=zH (aJ4 (xs:=xs) (by rw [h.hlen];exact hl));have HSP:=zH (aI4 xs);have HB8:Hid (blk=8192):=rfl;have HB9:Hid (((blk:Nat):Int)=8192):=rfl;generalize blk=N at *
 clear h;go_enter func211,ntmps211
 go_wp2_with (first
  | (refine wpList_make_full w rfl _ _ 97 rfl w.heap.size 5 i0 (.int .u8 0) 1 underlying97 hi hz0 hz1 .i64 .i64 8192 8192 N rfl rfl (HB9.o.symm) (HB9.o.symm) (by rw [hz2,HB8.o];decide) (by rw [HB8.o];unfold maxLen;omega) (nR _) ?_;intro w1 ho1 hg1;rw [HM.o] at ho1;have HO1:=zH ho1;have HG1:=zH ((Below.refl w.heap.size w).grown hg1 (nR _) (fun k hk=>by cases hk));clear ho1 hg1)
  | (refine wpList_copy_splice rfl (.tmp 5) (.tmp 6) 97 97 rfl 5 underlying97 (by rw [hi];simp [hz1]) _ _ N N len cap rfl rfl w.heap.size 0 (cellsOf (zs N)) 5 (aFl HO1.o).1 (cellsOf xs) (by rw [aAl,HL.o];exact (Nat.min_eq_left hl).symm) (fun h=>⟨rfl,bs_src (H.out.later HG1.o (Nat.le_refl _)) h⟩) (by rw [aAl,aAl,aI0,HL.o];omega) (aA4 xs) w.heap.size w HG1.o (Nat.le_refl _) ?_;intro w2 HR2 hb2;rw [HSP.o] at HR2;have HB2:=zH hb2;clear hb2))
 go_ret;refine ⟨rfl,aHh HR2.o (nR _) ?_ (by rw [HB8.o];unfold maxLen;omega),HB2.o⟩;rw [HPL.o]
theorem aBj {base:Nat} {n:Nat} {xs:List Value} (h:w.ownsRow base e size v n xs) (hb:Below w.heap.size w w'):w'.ownsRow base e size v n xs:=by
 obtain ⟨h1,h2⟩:=h;refine ⟨h1,?_⟩;rcases h2 with h2 | ⟨g,cap,cur,hv,hg,hc,h3⟩
 ·exact Or.inl h2
 ·refine Or.inr ⟨g,cap,cur,hv,hg,?_,h3⟩;rw [hb.block g (lO hc)];exact hc
theorem aFn {base base':Nat} {n:Nat} {xs:List Value} (h:w.ownsRow base e size v n xs) (hb:base'<=base):w.ownsRow base' e size v n xs:=by
 obtain ⟨h1,h2⟩:=h;refine ⟨h1,?_⟩;rcases h2 with h2 | ⟨g,cap,cur,hv,hg,hc,h3⟩
 ·exact Or.inl h2
 ·exact Or.inr ⟨g,cap,cur,hv,nT hb hg,hc,h3⟩
theorem aB6 (a:Option Addr) (len cap:Nat) (xs:List Nat) (w:World) (h:BS w a len cap xs) :
  Calls prog 127 #[.slice a len cap] w fun e w'=>∃ v,e=.returned v/\w'.ownsRow w.heap.size 5 1 v xs.length (cellsOf xs)/\Below w.heap.size w w':=by
 obtain ⟨i0,hi,hz0,hz1,hz2⟩:=info_parts aFw;have hl:=h.hlen;have hr:=h.hroom;have H:=zH h
 cases a with
 | none =>
  have:=h.hnil rfl;have:=h.hcap;have e:xs=[]:=List.eq_nil_of_length_eq_zero (by omega);subst e;clear h;have hq:=fun (n c:Nat) (ww:World)=>Lib.run_eql_slice_nil (P:=prog) ww 97 5 none n c 0 0 underlying97
  go_enter func127,ntmps127;go_wp2;go_ret;exact ⟨_,rfl,World.ownsRow_nil _ _ _ _,Below.refl _ _⟩
 | some x =>
  have HL:=zH hl;have HO:Hid ((w.alloc (.cells #[] 5)).ownsRow w.heap.size 5 1 (.slice (some ⟨w.heap.size,0,none⟩) 0 0) 0 []):=World.ownsRow_lit w #[] 0 (nR _) (by unfold maxLen;omega) rfl;have HB:=zH ((Below.refl w.heap.size w).alloc (nR _) (.cells #[] 5));have HN:=zH (H.out.later HB.o (nR _)).news;clear h hl;have hq:=fun (n c:Nat) (ww:World)=>Lib.run_eql_slice_nil (P:=prog) ww 97 5 (some x) n c 0 0 underlying97
  go_enter func127,ntmps127;go_wp2_with (at_builtin;refine wpList_append_own_at _ rfl (.tmp 5) (.tmp 6) 97 rfl w.heap.size 5 i0 (.int .u8 0) 1 1 underlying97 hi hz0 hz1 hz2 rfl (by omega) _ 0 [] rfl HO.o x len cap (cellsOf xs) rfl (by rw [aAl,HL.o,Nat.mul_one]) HN.o (aA4 xs) (by unfold maxLen;omega) (by omega) (by simp) ?_;intro v' w' h2 h3 h4 h5;have HO2:=zH h2;have HB2:=zH (HB.o.grown h3 (by simp) (fun j hj=>(HO.o.lt j hj).1));clear h2 h3 h4 h5);go_ret;have h2:=HO2.o;rw [Nat.zero_add,List.nil_append,<-HL.o] at h2;exact ⟨_,rfl,h2,HB2.o⟩
class Gd where
 s:Nat->Prop
def DTy (t:TypeId):Prop:=t=141\/t=349\/t=351\/t=3\/t=254\/t=259
def FBk (w:World) (k:Nat):Prop:=∃ cs t,w.heap[k]?=some (Obj.cells cs t (0,0))/\DTy t
theorem FBk.lt (h:FBk w k):k<w.heap.size:=by
 obtain ⟨cs,t,e,_⟩:=h;exact (lO e)
theorem FBk.same (h:FBk w k) (e:w'.heap[k]?=w.heap[k]?):FBk w' k:=by
 obtain ⟨cs,t,e1,h1⟩:=h;exact ⟨cs,t,e.trans e1,h1⟩
theorem gd_ne [Gd] (h:¬ Gd.s g) (hk:Gd.s k):k≠g:=fun e=>h (e ▸ hk)
def GdK [Gd] (w w':World):Prop:=∀ k,Gd.s k->FBk w k->w'.heap[k]?=w.heap[k]?
theorem GdK.trans [Gd] {a b c:World} (h:GdK a b) (k:GdK b c):GdK a c:=fun i hi hf=>(k i hi (hf.same (h i hi hf))).trans (h i hi hf)
theorem GdK.of [Gd] (h:Below w.heap.size w w'):GdK w w':=fun k _ hf=>h.block k hf.lt
def two (f g:Nat->Value) (n:Nat):List Value:=(List.range n).flatMap fun i=>[f i,g i]
theorem aCa (f g:Nat->Value) (n:Nat):two f g (n+1)=two f g n++[f n,g n]:=by simp [two,List.range_succ]
theorem aBl (f g:Nat->Value):∀ n,(two f g n).length=n*2
 | 0=>rfl
 | n+1=>by rw [aCa,lA,aBl f g n];simp;omega
theorem aBh (f g:Nat->Value) (i:Nat):∀ n,i<n->(two f g n)[i*2]?=some (f i)
 | 0,h=>by omega
 | n+1,h=>by
  rw [aCa]
  by_cases e:i=n
  ·subst e
   rw [List.getElem?_append_right (by rw [aBl];exact nR _),aBl]
   simp
  ·rw [List.getElem?_append_left (by rw [aBl];omega)]
   exact aBh f g i n (by omega)
theorem aDd (f g:Nat->Value) (i:Nat):∀ n,i<n->(two f g n)[i*2+1]?=some (g i)
 | 0,h=>by omega
 | n+1,h=>by
  rw [aCa]
  by_cases e:i=n
  ·subst e
   rw [List.getElem?_append_right (by rw [aBl];omega),aBl]
   simp
  ·rw [List.getElem?_append_left (by rw [aBl];omega)]
   exact aDd f g i n (by omega)
theorem aHn {f g f' g':Nat->Value}:∀ n,(∀ i,i<n->f i=f' i/\g i=g' i)->two f g n=two f' g' n
 | 0,_=>rfl
 | n+1,h=>by rw [aCa,aCa,aHn n (fun i hi=>h i (by omega)),(h n (by omega)).1,(h n (by omega)).2]
def upd (f:Nat->Value) (i:Nat) (v:Value):Nat->Value:=fun j=>if j=i then v else f j
theorem upd_at (f:Nat->Value) (i:Nat) (v:Value):upd f i v i=v:=by simp [upd]
theorem upd_ne (f:Nat->Value) {i j:Nat} (v:Value) (h:j≠i):upd f i v j=f j:=by simp [upd,h]
theorem two_set0 (f g:Nat->Value) (i:Nat) (v:Value):∀ n,i<n->(two f g n).set (i*2) v=two (upd f i v) g n
 | 0,h=>by omega
 | n+1,h=>by
  rw [aCa,aCa]
  by_cases e:i=n
  ·subst e
   rw [List.set_append_right _ _ (by rw [aBl];exact nR _),aBl,Nat.sub_self,upd_at]
   rw [aHn (f':=upd f i v) (g':=g) i (fun j hj=>⟨(upd_ne f v (Nat.ne_of_lt hj)).symm,rfl⟩)]
   rfl
  ·rw [List.set_append_left _ _ (by rw [aBl];omega),two_set0 f g i v n (by omega),upd_ne f v (by omega)]
theorem two_set1 (f g:Nat->Value) (i:Nat) (v:Value):∀ n,i<n->(two f g n).set (i*2+1) v=two f (upd g i v) n
 | 0,h=>by omega
 | n+1,h=>by
  rw [aCa,aCa]
  by_cases e:i=n
  ·subst e
   rw [List.set_append_right _ _ (by rw [aBl];omega),aBl,show i*2+1-i*2=1 by omega,upd_at]
   rw [aHn (f':=f) (g':=upd g i v) i (fun j hj=>⟨rfl,(upd_ne g v (Nat.ne_of_lt hj)).symm⟩)]
   rfl
  ·rw [List.set_append_left _ _ (by rw [aBl];omega),two_set1 f g i v n (by omega),upd_ne g v (by omega)]
structure DS where
 kept:List (List Nat)
 opens:List (Nat×List Nat)
 after:Int
 keep:Nat
 torn:Int
 cut:Int
 down:Bool
 life:Int
def DS.n (s:DS):Nat:=s.kept.length
def DS.K (s:DS) (i:Nat):List Nat:=s.kept.getD i []
def DS.m (s:DS):Nat:=s.opens.length
def DS.at_ (s:DS) (i:Nat):Nat:=(s.opens.getD i (0,[])).1
def DS.by_ (s:DS) (i:Nat):List Nat:=(s.opens.getD i (0,[])).2
def DS.idx (s:DS) (b:Nat):List Nat:=(List.range s.m).filter fun i=>s.at_ i == b
structure DS.Ok (s:DS):Prop where
 n1:1<=s.n
 n2:s.n<=4096
 kl:∀ i,(s.K i).length<=blk
 kb:∀ i,∀ c∈s.K i,c<256
 at_:∀ i,i<s.m->s.at_ i<s.n
 bl:∀ i,(s.by_ i).length<=blk
 bb:∀ i,∀ c∈s.by_ i,c<256
 mm:s.m<=100000
 keep:s.keep<18446744073709551616
 after:s.after<=9223372036854775807
 life0:0<=s.life
 life1:s.life<=100000
def icells (l:List Nat):List Value:=l.map fun n=>.int .i64 (n:Nat)
def headV (gb:Nat) (vo:Value) (n:Nat) (after:Int) (keep:Nat) (torn cut:Int) (down:Bool) (life:Int):Array Value:=#[.slice (some ⟨gb,0,none⟩) n n,vo,.int .i64 after,.int .u64 (keep:Int),.int .i64 torn,.int .i64 cut,.bool down,.int .i64 life]
structure DV [Gd] (B p gb:Nat) (vo:Value) (kv ov wv:Nat->Value) (s:DS) (w:World):Prop where
 hp:w.heap[p]?=some (.cells (headV gb vo s.n s.after s.keep s.torn s.cut s.down s.life) 141 (0,0))
 hg:w.heap[gb]?=some (.cells (two kv ov s.n).toArray 349 (0,0))
 hw:w.ownsRow B 351 2 vo s.m (two (fun i=>.int .i64 (s.at_ i:Nat)) wv s.m)
 hk:∀ i,i<s.n->w.ownsRow B 5 1 (kv i) (s.K i).length (cellsOf (s.K i))
 hb:∀ i,i<s.m->w.ownsRow B 5 1 (wv i) (s.by_ i).length (cellsOf (s.by_ i))
 ho:∀ i,i<s.n->w.ownsRow B 3 1 (ov i) (s.idx i).length (icells (s.idx i))
 ha:∀ i j k,i<s.n->j<s.n->i≠j->(ov i).ownBlock=some k->(ov j).ownBlock≠some k
 pB:B<=p
 gB:B<=gb
 ok:s.Ok
 hG:∀ k,Gd.s k->FBk w k/\k≠p/\k≠gb/\vo.ownBlock≠some k/\∀ i,i<s.n->(ov i).ownBlock≠some k
theorem DV.later [Gd] {gb:Nat} {vo:Value} {kv ov wv:Nat->Value} {s:DS} (h:DV B p gb vo kv ov wv s w) (hb:Below w.heap.size w w'):DV B p gb vo kv ov wv s w' where
 hp:=(hb.block p (lO h.hp)).trans h.hp
 hg:=(hb.block gb (lO h.hg)).trans h.hg
 hw:=aBj h.hw hb
 hk:=fun i hi=>aBj (h.hk i hi) hb
 hb:=fun i hi=>aBj (h.hb i hi) hb
 ho:=fun i hi=>aBj (h.ho i hi) hb
 ha:=h.ha
 pB:=h.pB
 gB:=h.gB
 ok:=h.ok
 hG:=fun k hk=>⟨(h.hG k hk).1.same (hb.block k (h.hG k hk).1.lt),(h.hG k hk).2⟩
def DI [Gd] (B p:Nat) (s:DS) (w:World):Prop:=∃ gb vo kv ov wv,DV B p gb vo kv ov wv s w
theorem DI.later [Gd] {s:DS} (h:DI B p s w) (hb:Below w.heap.size w w'):DI B p s w':=by
 obtain ⟨gb,vo,kv,ov,wv,h⟩:=h;exact ⟨gb,vo,kv,ov,wv,h.later hb⟩
theorem DI.fb [Gd] {s:DS} (h:DI B p s w) (hk:Gd.s k):FBk w k:=by
 obtain ⟨gb,vo,kv,ov,wv,h⟩:=h;exact (h.hG k hk).1
theorem DI.ok [Gd] {s:DS} (h:DI B p s w):s.Ok:=by
 obtain ⟨gb,vo,kv,ov,wv,h⟩:=h;exact h.ok
structure Fr [Gd] (B:Nat) (w w':World):Prop where
 bel:Below B w w'
 stay:∀ (k:Nat) (cs:Array Value) (t:TypeId) (fz:Nat×Nat),w.heap[k]?=some (Obj.cells cs t fz)->t≠141->t≠349->t≠351->t≠3->w'.heap[k]?=some (Obj.cells cs t fz)
 gd:GdK w w'
theorem Fr.of [Gd] (h:Below w.heap.size w w') (hB:B<=w.heap.size):Fr B w w':=⟨h.mono hB,fun i cs t fz e _ _ _ _=>(h.block i (lO e)).trans e,GdK.of h⟩
theorem aAd {cs:Array Value} (h:w.heap[p]?=some (.cells cs t (0,0))):w.cell? ⟨p,i,none⟩=cs[i]?:=cell_of_row w p i cs t (0,0) h
theorem aAm {cs:Array Value} (h:w.heap[p]?=some (.cells cs t (0,0))):w.frozen? ⟨p,i,none⟩=false:=frozen_of_row w p i cs t h
section
variable {B p gb:Nat} {vo:Value} {kv ov wv:Nat->Value} {s:DS} {w:World}
theorem DV.c0 [Gd] (h:DV B p gb vo kv ov wv s w):w.cell? ⟨p,0,none⟩=some (.slice (some ⟨gb,0,none⟩) s.n s.n):=aAd h.hp
theorem DV.c1 [Gd] (h:DV B p gb vo kv ov wv s w):w.cell? ⟨p,1,none⟩=some vo:=aAd h.hp
theorem DV.c6 [Gd] (h:DV B p gb vo kv ov wv s w):w.cell? ⟨p,6,none⟩=some (.bool s.down):=aAd h.hp
theorem DV.c7 [Gd] (h:DV B p gb vo kv ov wv s w):w.cell? ⟨p,7,none⟩=some (.int .i64 s.life):=aAd h.hp
theorem DV.form [Gd] (h:DV B p gb vo kv ov wv s w):∃ a cap,vo=.slice a s.m cap/\s.m<=cap/\cap<=9223372036854775807/\(a=none->s.m=0/\cap=0):=by
 rcases h.hw.2 with ⟨e,e0⟩ | ⟨g,cap,cur,e,_,_,h2,h3,_⟩
 ·exact ⟨none,0,by rw [e,e0],by omega,by omega,fun _=>⟨e0,rfl⟩⟩
 ·unfold maxLen at h3;exact ⟨_,cap,e,h2,by omega,fun h=>by cases h⟩
end
theorem has_any [Gd] (B p:Nat) (s:DS) (at_:Int) (w:World) (h:DI B p s w) :
  Calls prog 210 #[.pointer (some ⟨p,0,none⟩),.int .i64 at_] w fun e w'=>e=.returned (.bool (decide (0<=at_/\at_<s.n)))/\w'=w:=by
 obtain ⟨gb,vo,kv,ov,wv,h⟩:=h;have c0:=h.c0;by_cases h1:0<=at_
 ·have d1:decide (0<=at_)=true:=decide_eq_true h1;by_cases h2:at_<s.n
  ·have d2:decide (at_<(s.n:Int))=true:=decide_eq_true h2;have HD:Hid (decide (0<=at_/\at_<s.n)=true):=decide_eq_true ⟨h1,h2⟩;generalize s.n=n at *
   clear h;go_enter func210,ntmps210;go_wp2;go_ret
   first | exact ⟨rfl,rfl⟩ | (rw [HD.o];exact ⟨rfl,rfl⟩)
  ·have d2:decide (at_<(s.n:Int))=false:=decide_eq_false h2;have HD:Hid (decide (0<=at_/\at_<s.n)=false):=decide_eq_false fun h=>h2 h.2
   generalize s.n=n at *
   clear h;go_enter func210,ntmps210;go_wp2;go_ret
   first | exact ⟨rfl,rfl⟩ | (rw [HD.o];exact ⟨rfl,rfl⟩)
 ·have d1:decide (0<=at_)=false:=decide_eq_false h1;have HD:Hid (decide (0<=at_/\at_<s.n)=false):=decide_eq_false fun h=>h1 h.1
  clear h;go_enter func210,ntmps210;go_wp2;go_ret
  first | exact ⟨rfl,rfl⟩ | (rw [HD.o];exact ⟨rfl,rfl⟩)
theorem life_any [Gd] (B p:Nat) (s:DS) (w:World) (h:DI B p s w) :
  Calls prog 148 #[.pointer (some ⟨p,0,none⟩)] w fun e w'=>e=.returned (.int .i64 s.life)/\w'=w:=by
 obtain ⟨gb,vo,kv,ov,wv,h⟩:=h;have c7:=h.c7;clear h;go_enter func148,ntmps148;go_wp2;go_ret;exact ⟨rfl,rfl⟩
theorem aEo [Gd] (B p:Nat) (s:DS) (w:World) (h:DI B p s w) :
  Calls prog 145 #[.pointer (some ⟨p,0,none⟩)] w fun e w'=>e=.returned (.int .i64 (s.n:Nat))/\w'=w:=by
 obtain ⟨gb,vo,kv,ov,wv,h⟩:=h;have c0:=h.c0;clear h;go_enter func145,ntmps145;go_wp2;go_ret;exact ⟨rfl,rfl⟩
def DS.new (n:Nat):DS:=⟨List.replicate n [],[],0,0,0,0,false,0⟩
theorem made_two (n:Nat):(madeCells (Value.agg #[.slice none 0 0,.slice none 0 0]).cells (n*2)).toList=two (fun _=>.slice none 0 0) (fun _=>.slice none 0 0) n:=by
 have h1:(madeCells (Value.agg #[.slice none 0 0,.slice none 0 0]).cells (n*2)).toList=List.replicate (n*2) (.slice none 0 0):=by
  rw [List.eq_replicate_iff];refine ⟨by simp [size_madeCells],fun b hb=>?_⟩;have e:(Value.agg #[.slice none 0 0,.slice none 0 0]).cells=#[.slice none 0 0,.slice none 0 0]:=rfl;rw [e] at hb;simp only [madeCells,Array.toList_map,List.mem_map] at hb;obtain ⟨j,_,rfl⟩:=hb;have:j % 2=0\/j % 2=1:=by omega
  rcases this with h | h<;>simp [h]
 have h2:two (fun _=>Value.slice none 0 0) (fun _=>.slice none 0 0) n=List.replicate (n*2) (.slice none 0 0):=by
  rw [List.eq_replicate_iff];refine ⟨aBl _ _ n,fun b hb=>?_⟩;simp only [two,List.mem_flatMap,List.mem_cons,List.not_mem_nil,or_false] at hb;obtain ⟨_,_,h⟩:=hb;exact h.elim id id
 rw [h1,h2]
theorem info_block:(prog.info? 349).map (fun i=>(i.zero,i.size,i.bytes))=some (some (.agg #[.slice none 0 0,.slice none 0 0]),2,48):=by kernel_rfl
theorem new_K (n i:Nat):(DS.new n).K i=[]:=by
 simp only [DS.K,DS.new,List.getD_eq_getElem?_getD,List.getElem?_replicate]
 split<;>rfl
theorem new_by (n i:Nat):(DS.new n).by_ i=[]:=rfl
theorem new_ok {n:Nat} (h1:1<=n) (h2:n<=4096):(DS.new n).Ok where
 n1:=by simpa [DS.n,DS.new] using h1
 n2:=by simpa [DS.n,DS.new] using h2
 kl:=fun i=>by rw [new_K];exact Nat.zero_le _
 kb:=fun i c hc=>by rw [new_K] at hc;cases hc
 at_:=fun i hi=>by simp [DS.m,DS.new] at hi
 bl:=fun i=>by rw [new_by];exact Nat.zero_le _
 bb:=fun i c hc=>by rw [new_by] at hc;cases hc
 mm:=by simp [DS.m,DS.new]
 keep:=by simp [DS.new]
 after:=by simp [DS.new]
 life0:=by simp [DS.new]
 life1:=by simp [DS.new]
theorem made_whole {n:Nat} {xs:List Value} (h:w.ownsRow B e 2 (.slice (some ⟨g,0,none⟩) n n) n xs):w.heap[g]?=some (.cells xs.toArray e (0,0))/\B<=g:=by
 rcases h.2 with ⟨e,_⟩ | ⟨g',cap,cur,e,h1,h2,h3,h4,h5,h6⟩
 ·cases e
 ·simp only [Value.slice.injEq,oI,Addr.mk.injEq,and_true,true_and] at e;obtain ⟨rfl,rfl⟩:=e;refine ⟨?_,h1⟩;rw [h2,<-h6]
  congr 2
  apply Array.toList_inj.1;simp only;rw [List.take_of_length_le (by simp;omega)]
theorem new_any [Gd] (B n:Nat) (w:World) (h1:1<=n) (h2:n<=4096) (hB:B<=w.heap.size) (hN:∀ k,Gd.s k->FBk w k) :
  Calls prog 31 #[.int .i64 (n:Int)] w fun e w'=>∃ p,e=.returned (.tuple #[.pointer (some ⟨p,0,none⟩),.int .i64 0])/\DI B p (DS.new n) w'/\Below w.heap.size w w':=by
 obtain ⟨i0,hi,hz0,hz1,hz2⟩:=info_parts info_block;have HM:=zH (made_two n);have HOK:=zH (new_ok h1 h2);have d1:decide ((n:Int)<1)=false:=decide_eq_false (by omega);have d2:decide ((4096:Int)<(n:Int))=false:=decide_eq_false (by omega);go_enter func31,ntmps31;go_wp2_with (refine wpList_make_full w rfl _ _ 135 rfl w.heap.size 349 i0 (.agg #[.slice none 0 0,.slice none 0 0]) 2 underlying135 hi hz0 hz1 .i64 .i64 n n n rfl rfl rfl rfl (by rw [hz2];omega) (by unfold maxLen;omega) (nR _) ?_;intro w1 ho1 hg1;rw [HM.o] at ho1;have HO1:=zH (made_whole ho1);have HG1:=zH ((Below.refl w.heap.size w).grown hg1 (nR _) (fun k hk=>by cases hk));clear ho1 hg1);go_ret2;have HB2:=HG1.o.alloc HG1.o.size (.cells #[.slice (some ⟨w.heap.size,0,none⟩) n n,.slice none 0 0,.int .i64 0,.int .u64 0,.int .i64 0,.int .i64 0,.bool false,.int .i64 0] 141);have e:(DS.new n).n=n:=by simp [DS.n,DS.new]
 refine ⟨w1.heap.size,rfl,⟨w.heap.size,.slice none 0 0,fun _=>.slice none 0 0,fun _=>.slice none 0 0,fun _=>.slice none 0 0,?_⟩,HB2⟩;refine ⟨?_,?_,World.ownsRow_nil _ _ _ _,?_,?_,?_,?_,nT hB HG1.o.size,hB,HOK.o,fun k hk=>⟨(hN k hk).same (HB2.block k (hN k hk).lt),by have:=(hN k hk).lt;have:=HG1.o.size;omega,by have:=(hN k hk).lt;omega,(fun e=>by cases e),fun i _ e=>by cases e⟩⟩
 ·rw [e];exact heap_alloc_new w1 _
 ·rw [e,Below.heap_alloc _ _ _ (lO HO1.o.1)];exact HO1.o.1
 ·intro i _;rw [new_K];exact World.ownsRow_nil _ _ _ _
 ·intro i hi;simp [DS.m,DS.new] at hi
 ·intro i _;exact World.ownsRow_nil _ _ _ _
 ·intro i j k _ _ _ h;cases h
end Go.Proofs.YtdpdjpkmndnaaaaGreat
