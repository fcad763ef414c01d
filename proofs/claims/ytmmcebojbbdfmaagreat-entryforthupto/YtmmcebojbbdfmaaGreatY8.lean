import Derived.Test.YtmmcebojbbdfmaaGreatY7
import Derived.Maps.Range
set_option maxRecDepth 100000
set_option maxHeartbeats 16000000
namespace Go.Proofs.YtmmcebojbbdfmaaGreat
open Go.RowKit _root_.Go.Proofs.Tryz
theorem aAm {w w':World} {base:Nat} {e:TypeId} {size:Nat} {v:Value} {n:Nat} {xs:List Value} (h:w.ownsRow base e size v n xs) (hb:Below w.heap.size w w'):w'.ownsRow base e size v n xs:=by
 obtain ⟨h1,h2⟩:=h;refine ⟨h1,?_⟩;rcases h2 with h2 | ⟨g,cap,cur,hv,hg,hc,h3⟩
 ·exact Or.inl h2
 ·refine Or.inr ⟨g,cap,cur,hv,hg,?_,h3⟩;rw [hb.block g (lO hc)];exact hc
structure GR (B:Nat) (w0:World) (v0:Value) (w1:World) (v1:Value) (xs:List Nat):Prop where
 own:w1.ownsRow B 5 1 v1 xs.length (cellsOf xs)
 grown:w0.grownBy w1 v0.ownBlock
 lies:v1.ownBlock=v0.ownBlock\/∃ j,v1.ownBlock=some j/\w0.heap.size<=j
 base:B<=w0.heap.size
 old:∀ k,v0.ownBlock=some k->B<=k
section
variable {B:Nat} {w0 w1 w2:World} {v0 v1 v2:Value} {xs ys:List Nat}
theorem GR.hid (h:GR B w0 v0 w1 v1 xs):Hid (GR B w0 v0 w1 v1 xs):=h
theorem GR.start (h:w0.ownsRow B 5 1 v0 xs.length (cellsOf xs)) (hB:B<=w0.heap.size):GR B w0 v0 w0 v0 xs :=
 ⟨h,World.grownBy.refl _ _,Or.inl rfl,hB,fun k hk=>(h.lt k hk).1⟩
theorem GR.below (h:GR B w0 v0 w1 v1 xs):Below B w0 w1:=(Below.refl B w0).grown h.grown h.base h.old
theorem GR.size (h:GR B w0 v0 w1 v1 xs):w0.heap.size<=w1.heap.size:=h.grown.size
theorem GR.trans (h:GR B w0 v0 w1 v1 xs) (k:GR B w1 v1 w2 v2 ys):GR B w0 v0 w2 v2 ys:=by
 refine ⟨k.own,h.grown.andThen k.grown ?_,?_,h.base,h.old⟩
 ·intro j hj;rcases h.lies with e | ⟨i,e,hi⟩
  ·right;rw [<-e];exact hj
  ·left;rw [e] at hj;cases hj;exact hi
 ·rcases k.lies with e | ⟨j,e,hj⟩
  ·rw [e];exact h.lies
  ·exact Or.inr ⟨j,e,nT h.size hj⟩
theorem GR.later (h:GR B w0 v0 w1 v1 xs) (hb:Below w1.heap.size w1 w2):GR B w0 v0 w2 v1 xs:=by
 refine ⟨aAm h.own hb,h.grown.trans ⟨hb.os,hb.tape,hb.output,hb.size,fun k hk _=>hb.block k hk⟩,h.lies,h.base,h.old⟩
theorem GR.alloc (h:GR B w0 v0 w1 v1 xs) (o:Obj):GR B w0 v0 (w1.alloc o) v1 xs:=h.later ((Below.refl _ _).alloc (nR _) _)
theorem GR.kept (h:GR B w0 v0 w1 v1 xs) {k:Nat} (hk:k<w0.heap.size) (hne:some k≠v0.ownBlock):w1.heap[k]?=w0.heap[k]?:=h.grown.block k hk hne
theorem GR.step (h:GR B w0 v0 w1 v1 xs) (ho:w2.ownsRow B 5 1 v2 ys.length (cellsOf ys)) (hg:w1.grownBy w2 v1.ownBlock) (hat:v2.ownBlock=v1.ownBlock\/v2.ownBlock=some w1.heap.size):GR B w0 v0 w2 v2 ys :=
 h.trans ⟨ho,hg,hat.imp id fun e=>⟨_,e,nR _⟩,nT h.base h.size,fun k hk=>(h.own.lt k hk).1⟩
end
theorem aAv {ops:Array Oper} {rest:List Oper} {o:Oper} {a:Act} {Q:Exit->Act->World->Prop} {wr:World} (hgd:o.guard=none) (s x:Operand)
  (ho:o.op=.call { callee:=.builtin .append,args:=#[s,x],argTypes:=#[26,26] })
  (B:Nat) (w0:World) (v0 v:Value) (xs:List Nat) (hs:a.eval s=v) (hR:GR B w0 v0 wr v xs) (g m cx:Nat) (ys:List Nat)
  (hx:a.eval x=.slice (some ⟨g,0,none⟩) m cx) (hm:ys.length=m) (hn:∀ j u,(cellsOf ys)[j]?=some u->wr.cell? ((⟨g,0,none⟩:Addr).add j)=some u) (hsize:xs.length+m<=140737488355328)
  (h:∀ v' w',GR B w0 v0 w' v' (xs++ys)->wpList prog ops Q rest (a.put o.dst v') w'):wpList prog ops Q (o::rest) a wr:=by
 obtain ⟨i0,hi,hz0,hz1,hz2⟩:=info_parts aF2;refine wpList_append_own_at wr hgd s x _ ho B 5 i0 (.int .u8 0) 1 1 underlying26 hi hz0 hz1 hz2 rfl (by omega) v xs.length (cellsOf xs) hs hR.own ⟨g,0,none⟩ m cx (cellsOf ys) hx (by rw [aAi];omega) hn (aCf ys) (by unfold maxLen;omega) (by omega) (nT hR.base hR.size) ?_;intro v' w' h2 h3 _ h5;refine h v' w' (hR.step ?_ h3 h5);rw [lA,aDb,hm];exact h2
theorem news1 (wr:World) (x:Nat) (t:TypeId):∀ j u,(cellsOf [x])[j]?=some u->(wr.alloc (.cells #[.int .u8 (x:Nat)] t)).cell? ((⟨wr.heap.size,0,none⟩:Addr).add j)=some u:=by
 intro j u hj
 match j,hj with
 | 0,hj=>simp [cellsOf] at hj;subst hj;simp [Addr.add]
def hiB (n size:Nat):List Nat:=(List.range size).map fun i=>n / 256 ^ (size-1-i) % 256
theorem aCp (n size:Nat):(hiB n size).length=size:=by simp [hiB]
theorem hiB_take (n size k:Nat) (h:k<size):(hiB n size).take (k+1)=(hiB n size).take k++[n / 256 ^ (size-1-k) % 256]:=by
 rw [List.take_add_one]
 congr 1
 simp [hiB,h]
end Go.Proofs.YtmmcebojbbdfmaaGreat
