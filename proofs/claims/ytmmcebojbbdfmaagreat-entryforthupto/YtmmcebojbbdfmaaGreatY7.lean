import Derived.Test.YtmmcebojbbdfmaaGreatProg
import Derived.WalkKit
import Derived.WalkSpells
import Derived.WalkLawsBesides
import Derived.Laws.BytesArg
import Derived.Maps.AppendAt
import Derived.Laws.AppendOwnNone
import Derived.Laws.CopyOwn
set_option maxRecDepth 100000
set_option maxHeartbeats 16000000
namespace Go.Proofs.YtmmcebojbbdfmaaGreat
open Go.RowKit _root_.Go.Proofs.Tryz
variable {B b c cap i len o:Nat} {a:Option Addr} {t:TypeId} {v:Value} {w w':World} {xs:List Nat}
theorem lO {α:Type} {xs:Array α} {a:α} (h:xs[i]?=some a):i<xs.size:=(Array.getElem?_eq_some_iff.1 h).1
theorem nT {a:Nat} (h:a<=b) (k:b<=c):a<=c:=Nat.le_trans h k
theorem nR (n:Nat):n<=n:=Nat.le_refl n
theorem gE {α:Type} {l:List α} (h:i<l.length):l[i]?=some l[i]:=List.getElem?_eq_getElem h
theorem mG {α:Type} {l:List α} {a:α} (h:l[i]?=some a):a∈l:=List.mem_of_getElem? h
theorem lA {α:Type} {xs bs:List α}:(xs++bs).length=xs.length+bs.length:=List.length_append
theorem oI {α:Type} {a b:α}:(some a=some b)=(a=b):=Option.some.injEq a b
theorem cI {a c:Array Value} {u:TypeId} {f g:Nat×Nat}:(Obj.cells a t f=Obj.cells c u g)=(a=c/\t=u/\f=g):=Obj.cells.injEq a t f c u g
theorem lL {α:Type} {l:List α} {a:α} (h:l[i]?=some a):i<l.length:=(List.getElem?_eq_some_iff.1 h).1
structure BS (w:World) (a:Option Addr) (len cap:Nat) (xs:List Nat):Prop where
 hlen:xs.length=len
 hcap:len<=cap
 hroom:len<=140737488355328
 hmax:cap<=9223372036854775807
 hbyte:∀ n∈xs,n<256
 hnil:a=none->cap=0
 hcell:∀ x,a=some x->∀ i,i<len->w.cell? (x.add i)=some (.int .u8 (xs.getD i 0:Nat))
theorem byteAt (h:∀ n∈xs,n<256) (i:Nat):xs.getD i 0<256:=by
 rw [List.getD_eq_getElem?_getD];rcases Nat.lt_or_ge i xs.length with hi | hi
 ·rw [gE hi];exact h _ (List.getElem_mem hi)
 ·rw [List.getElem?_eq_none hi];decide
theorem aBe {a:Addr} (h:w.cell? a=some v):a.block<w.heap.size:=by
 rcases Nat.lt_or_ge a.block w.heap.size with hb | hb
 ·exact hb
 ·simp [World.cell?,Array.getElem?_eq_none hb] at h
theorem add_plain (b o i:Nat):(⟨b,o,none⟩:Addr).add i=⟨b,o+i,none⟩:=by unfold Addr.add;split<;>simp_all
theorem BS.place (h:BS w a len cap xs) (h0:0<len) :
  ∃ b o,a=some ⟨b,o,none⟩/\b<w.heap.size/\∀ i,i<len->w.cell? ⟨b,o+i,none⟩=some (.int .u8 (xs.getD i 0:Nat)):=by
 cases a with
 | none=>have:=h.hnil rfl;have:=h.hcap;omega
 | some x =>
  obtain ⟨b,o,s⟩:=x;have hc:=h.hcell _ rfl 0 h0;have hs:s=none:=by simpa [Addr.add] using World.cell?_spot hc
  subst hs;have hcell:∀ i,i<len->w.cell? ⟨b,o+i,none⟩=some (.int .u8 (xs.getD i 0:Nat)):=fun i hi=>by
   have:=h.hcell _ rfl i hi;rwa [add_plain] at this
  exact ⟨b,o,rfl,aBe (hcell 0 h0),hcell⟩
theorem BS.later (h:BS w a len cap xs) (hb:Below B w w') (hB:w.heap.size<=B):BS w' a len cap xs:=by
 refine ⟨h.hlen,h.hcap,h.hroom,h.hmax,h.hbyte,h.hnil,fun x hx i hi=>?_⟩;have hc:=h.hcell x hx i hi;rw [<-hc];exact hb.cell (Nat.lt_of_lt_of_le (aBe hc) hB)
theorem BS.none (w:World) (a:Option Addr) (cap:Nat) (hr:cap<=9223372036854775807) (hn:a=Option.none->cap=0):BS w a 0 cap [] :=
 ⟨rfl,Nat.zero_le _,Nat.zero_le _,hr,by simp,hn,fun _ _ _ h=>absurd h (by omega)⟩
theorem BS.of (hl:xs.length=len) (hc:len<=cap) (hr:len<=140737488355328) (hm:cap<=9223372036854775807) (hb:∀ n∈xs,n<256)
  (hcell:∀ i,i<len->w.cell? ⟨b,o+i,Option.none⟩=some (.int .u8 (xs.getD i 0:Nat))):BS w (some ⟨b,o,Option.none⟩) len cap xs :=
 ⟨hl,hc,hr,hm,hb,by simp,fun x hx i hi=>by simp at hx;subst hx;rw [add_plain];exact hcell i hi⟩
def str (xs:List Nat):ByteArray:=strOfNums (xs.map Int.ofNat)
theorem getD_map (xs:List Nat) (i:Nat):(xs.map Int.ofNat).getD i 0=((xs.getD i 0:Nat):Int):=by
 simp only [List.getD_eq_getElem?_getD,List.getElem?_map]
 cases xs[i]?<;>rfl
theorem run_text (h:BS w a len cap xs) :
  (convert 26 9 (.slice a len cap)).run prog w=.ok (.string (str xs)) w:=by
 rcases Nat.eq_zero_or_pos len with h0 | h0
 ·have hx:xs=[]:=List.eq_nil_of_length_eq_zero (by have:=h.hlen;omega);subst hx h0
  cases a with
  | none=>exact run_convert_bytes_nil w _ _ underlying26 underlying5 0 cap _ underlying9
  | some x =>
   rw [run_convert_bytes_string w _ _ _ _ 0 cap underlying26 underlying5 underlying9];rw [run_bytesToString w x 0 cap [] (by simpa using run_loadCells_list (P:=prog) w x [] (by simp))];rfl
 ·obtain ⟨b,o,rfl,_,hc⟩:=h.place h0;exact run_convert_bytes_arg w _ _ underlying26 underlying5 b o len cap (xs.map Int.ofNat) (by simpa using h.hlen) (fun i hi=>by rw [getD_map];exact hc i hi) _ underlying9
def cellsOf (xs:List Nat):List Value:=xs.map fun (n:Nat)=>Value.int .u8 (n:Int)
theorem aAi (xs:List Nat):(cellsOf xs).length=xs.length:=by simp [cellsOf]
theorem aDb (xs ys:List Nat):cellsOf (xs++ys)=cellsOf xs++cellsOf ys:=by simp [cellsOf]
theorem aCf (xs:List Nat):∀ u∈cellsOf xs,u.oneCell'=true:=by
 intro u hu;simp only [cellsOf,List.mem_map] at hu;obtain ⟨n,_,rfl⟩:=hu;rfl
theorem aBp (xs:List Nat) (j:Nat) (hj:j<xs.length):(cellsOf xs)[j]?=some (.int .u8 (xs.getD j 0:Nat)):=by
 simp [cellsOf,hj]
theorem BS.news {x:Addr} (h:BS w (some x) len cap xs):∀ j u,(cellsOf xs)[j]?=some u->w.cell? (x.add j)=some u:=by
 intro j u hu;have hj:j<xs.length:=by
  rcases Nat.lt_or_ge j xs.length with hj | hj
  ·exact hj
  ·rw [List.getElem?_eq_none (by simpa [aAi] using hj)] at hu;simp at hu
 rw [aBp xs j hj] at hu;rw [h.hcell x rfl j (by have:=h.hlen;omega)];exact hu
theorem aF2:(prog.info? 5).map (fun i=>(i.zero,i.size,i.bytes))=some (some (.int .u8 0),1,1):=by kernel_rfl
end Go.Proofs.YtmmcebojbbdfmaaGreat
