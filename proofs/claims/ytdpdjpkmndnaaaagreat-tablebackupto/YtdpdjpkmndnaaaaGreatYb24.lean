import Derived.Test.YtdpdjpkmndnaaaaGreatYb20
import Derived.Lib.BytesEntry
import Derived.Lib.Bytealg
set_option maxRecDepth 100000
set_option maxHeartbeats 16000000
set_option linter.unusedVariables false
namespace Go.Proofs.YtdpdjpkmndnaaaaGreat
open Go.RowKit _root_.Go.Proofs.Tryz
abbrev kBp:=@World.cell?_of_block
variable {a:Option Addr} {c g n o:Nat} {t:TypeId} {v:Value} {w:World} {xs:List Nat}
def BK (B:Nat) (w:World) (a:Option Addr) (n c:Nat) (xs:List Nat):Prop :=
 BS w a n c xs/\∀ x,a=some x->(n=0\/x.block<B)\/∃ cs fz,w.heap[x.block]?=some (.cells cs 5 fz)
def FT (B:Nat) (w w':World):Prop:=Below B w w'/\∀ (k:Nat) (cs:Array Value) (fz:Nat×Nat),w.heap[k]?=some (.cells cs 5 fz)->w'.heap[k]?=some (.cells cs 5 fz)
section
variable {B:Nat} {w w' w2:World} {a:Option Addr} {n c:Nat} {xs:List Nat}
theorem FT.refl (B:Nat) (w:World):FT B w w:=⟨kBh _ _,fun _ _ _ h=>h⟩
theorem FT.trans (h:FT B w w') (k:FT B w' w2):FT B w w2:=⟨h.1.trans k.1,fun i cs fz e=>k.2 i cs fz (h.2 i cs fz e)⟩
theorem FT.of (h:Below w.heap.size w w') (hB:B<=w.heap.size):FT B w w':=⟨h.mono hB,fun i cs fz e=>(h.block i (lO e)).trans e⟩
theorem FT.set {u:Value} {cs:Array Value} (hg:w.heap[g]?=some (.cells cs t (0,0))) (hB:B<=g) (ht:t≠5):FT B w (w.setCell ⟨g,o,none⟩ u):=by
 refine ⟨(kBh _ _).setCell hB u,fun k cs' fz e=>?_⟩;rw [heap_setCell_other _ _ _ _ ?_,e];intro e2;have e2:k=g:=e2;subst e2;rw [hg] at e;simp only [oI,cI] at e;exact ht e.2.1
theorem BK.ft (h:BK B w a n c xs) (f:FT B w w'):BK B w' a n c xs:=by
 obtain ⟨h1,h2⟩:=h;refine ⟨⟨h1.hlen,h1.hcap,h1.hroom,h1.hmax,h1.hbyte,h1.hnil,fun x hx i hi=>?_⟩,fun x hx=>?_⟩
 ·rw [<-h1.hcell x hx i hi];refine kBp ?_;have e:(x.add i).block=x.block:=by unfold Addr.add;split<;>rfl
  rw [e];rcases h2 x hx with (q | q) | ⟨cs,fz,q⟩
  ·omega
  ·exact f.1.block _ q
  ·rw [f.2 _ _ _ q,q]
 ·rcases h2 x hx with q | ⟨cs,fz,q⟩
  ·exact Or.inl q
  ·exact Or.inr ⟨cs,fz,f.2 _ _ _ q⟩
theorem BK.later (h:BK B w a n c xs) (hb:Below w.heap.size w w') (hB:B<=w.heap.size):BK B w' a n c xs:=h.ft (FT.of hb hB)
theorem BK.nil (B:Nat) (w:World):BK B w none 0 0 []:=⟨BS.none w none 0 (by omega) (fun _=>rfl),fun x hx=>by cases hx⟩
theorem BK.fresh (h:BS w (some ⟨g,0,none⟩) n c xs) (hg:w.heap[g]?=some (.cells (cellsOf xs).toArray 5 (0,0))):BK B w (some ⟨g,0,none⟩) n c xs :=
 ⟨h,fun x hx=>by simp only [oI] at hx;subst hx;exact Or.inr ⟨_,_,hg⟩⟩
theorem BK.owned {B':Nat} (h:w.ownsRow B' 5 1 v xs.length (cellsOf xs)) (hl:xs.length<=140737488355328) (hb:∀ n∈xs,n<256):∃ a cap,v=.slice a xs.length cap/\BK B w a xs.length cap xs:=by
 rcases h.2 with ⟨rfl,h1⟩ | ⟨g,cap,cur,rfl,hB,hg,hnc,hcm,hcs,ht⟩
 ·have:xs=[]:=by
   have:=h.1;rw [aAl,h1] at this;exact kAf (by omega)
  subst this;exact ⟨none,0,rfl,BK.nil _ _⟩
 ·exact ⟨_,_,rfl,BS.ofOwns h hl hb,fun x hx=>by simp only [oI] at hx;subst hx;exact Or.inr ⟨cur,_,hg⟩⟩
end
theorem aDe:∀ {xs ys:List Nat},(∀ x∈xs,x<256)->(∀ y∈ys,y<256)->Lib.compareBytes (xs.map UInt8.ofNat) (ys.map UInt8.ofNat)=bAb xs ys
 | [],[],_,_=>rfl
 | [],_::_,_,_=>rfl
 | _::_,[],_,_=>rfl
 | a::xs,b::ys,h1,h2=>by
  have ha:=h1 a (by simp)
  have hb:=h2 b (by simp)
  have lt:∀ x y:Nat,x<256->y<256->(UInt8.ofNat x<UInt8.ofNat y↔x<y):=by
   intro x y hx hy;rw [UInt8.lt_iff_toNat_lt];simp [UInt8.toNat_ofNat',Nat.mod_eq_of_lt hx,Nat.mod_eq_of_lt hy]
  simp only [List.map_cons,Lib.compareBytes,bAb];rw [aDe (fun x hx=>h1 x (by simp [hx])) (fun y hy=>h2 y (by simp [hy]))];simp only [lt a b ha hb,lt b a hb ha]
theorem aH5 (h:BS w a n c xs):(Extern.Bytes.bytesOf (.slice a n c)).run prog w=.ok ⟨(xs.map UInt8.ofNat).toArray⟩ w:=by
 cases a with
 | none =>
  have hn:n=0:=by have:=h.hnil rfl;have:=h.hcap;omega
  have:xs=[]:=kAf (by have:=h.hlen;omega);subst this;rfl
 | some x =>
  have hl:=Lib.run_loadBytesX (P:=prog) w (xs.map Int.ofNat) x .empty (fun j y hj=>by
   rw [kAq] at hj
   cases hx:xs[j]? with
   | none=>rw [hx] at hj;cases hj
   | some z =>
    rw [hx] at hj;simp only [Option.map_some,oI] at hj;subst hj;have hlt:=(lL hx);rw [h.hcell x rfl j (by have:=h.hlen;omega),kAa,hx]
    rfl)
  show (Extern.Bytes.loadBytes x n .empty).run prog w=_;rw [kAp,h.hlen] at hl;rw [hl]
  congr 2
  simp [Lib.bytesOf]
theorem aA9 (a a':Option Addr) (n c n' c':Nat) (xs ys:List Nat) (w:World) (h:BS w a n c xs) (h':BS w a' n' c' ys) :
  Calls prog 117 #[.slice a n c,.slice a' n' c'] w fun e w'=>e=.returned (.int .i64 (bAb xs ys))/\w'=w:=by
 have HR:Hid ((Extern.BytealgCompare.compare #[.slice a n c,.slice a' n' c']).run prog w=.ok (.int .i64 (bAb xs ys)) w):=by
  show _=_;change Sem.run prog (do pure (goInt (Extern.BytealgCompare.cmp (<-Extern.Bytes.bytesOf (.slice a n c)) (<-Extern.Bytes.bytesOf (.slice a' n' c'))))) w=_;simp only [Sem.run_bind,Sem.run_pure,aH5 h,aH5 h',Result.andThen];rw [Lib.cmp_eq,List.toList_toArray,List.toList_toArray,aDe h.hbyte h'.hbyte];rfl
 clear h h';go_enter func117,ntmps117;go_wp2;rw [run_callFunc_extern func160 (by kernel_rfl) (by kernel_rfl) (by kernel_rfl) (e:=Extern.BytealgCompare.compare) (by kernel_rfl),HR.o];simp only [Result.andThen];rw [Oper.upon_value];go_wp2;go_ret;exact ⟨rfl,rfl⟩
theorem aA2 (w:World):Calls prog 189 #[.bool true] w fun e w'=>e=.returned (.tuple #[])/\w'=w:=by
 go_enter func189,ntmps189;go_wp2;go_end0;exact ⟨rfl,rfl⟩
end Go.Proofs.YtdpdjpkmndnaaaaGreat
