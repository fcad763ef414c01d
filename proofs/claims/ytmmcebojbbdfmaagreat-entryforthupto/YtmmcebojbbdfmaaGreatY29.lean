import Derived.Test.YtmmcebojbbdfmaaGreatY27
import Derived.Test.YtmmcebojbbdfmaaGreatY17
set_option maxRecDepth 100000
set_option maxHeartbeats 16000000
set_option linter.unusedVariables false
namespace Go.Proofs.YtmmcebojbbdfmaaGreat
open Go.RowKit _root_.Go.Proofs.Tryz
variable {B c n:Nat} {a:Option Addr} {l:List Val} {v:Value} {w w' wr:World} {xs:List Nat}
abbrev OB (B:Nat) (w:World) (v:Value) (xs:List Nat):Prop:=w.ownsRow B 5 1 v xs.length (cellsOf xs)
def fB (n:Nat):List Value:=[.int .u8 (n:Int)]
theorem aBm (xs:List Nat):xs.flatMap fB=cellsOf xs:=by
 induction xs with
 | nil=>rfl
 | cons x xs ih=>rw [List.flatMap_cons,ih];rfl
theorem aBt (n:Nat):(fB n).length=1:=rfl
theorem aFm (n:Nat):∀ u∈fB n,u.oneCell'=true:=by intro u hu;simp only [fB,List.mem_cons,List.not_mem_nil,or_false] at hu;subst hu;rfl
theorem OB.later (h:OB B w v xs) (hb:Below w.heap.size w w'):OB B w' v xs:=aAm h hb
theorem OB.form (h:OB B w v xs):∃ a c,v=.slice a xs.length c:=by
 rcases h.2 with ⟨e,h0⟩ | ⟨g,cap,cur,e,_⟩
 ·exact ⟨none,0,by rw [e,h0]⟩
 ·exact ⟨_,_,e⟩
theorem aAq {ops:Array Oper} {rest:List Oper} {o:Oper} {a:Act} {Q:Exit->Act->World->Prop} (hgd:o.guard=none) (s x:Operand)
  (ho:o.op=.call { callee:=.builtin .append,args:=#[s,x],argTypes:=#[26,26] })
  {B1 B2:Nat} {v u:Value} {xs ys:List Nat} (hs:a.eval s=v) (hx:a.eval x=u) (hF:OB B1 wr v xs) (hG:OB B2 wr u ys) (hB1:B1<=wr.heap.size) (hsize:xs.length+ys.length<=100000000)
  (h:∀ v' w',OB B1 w' v' (xs++ys)->Below B1 wr w'->(∀ i,i<wr.heap.size->v.ownBlock≠some i->w'.heap[i]?=wr.heap[i]?)->wpList prog ops Q rest (a.put o.dst v') w'):wpList prog ops Q (o::rest) a wr:=by
 have hF':=hF;have hG':=hG;unfold OB at hF' hG';rw [<-aBm] at hF' hG';obtain ⟨ad,c,e,hsv⟩:=aAo aBt hG' rfl;subst e;refine aA8 aBt (by omega) aFm underlying26 aF2 rfl (by omega) hgd s x ho (F:=xs) (G:=ys) hs hx hF' hsv hB1 hsize ?_;intro v' w' h1 h2 h3;refine h v' w' ?_ h2 h3;rw [aBm] at h1;exact h1
theorem OB.ne {V:Nat} (h:OB B w v xs) {cs:Array Value} {t:TypeId} {fz:Nat×Nat} (hV:w.heap[V]?=some (.cells cs t fz)) (ht:t≠5):v.ownBlock≠some V:=by
 intro q;rcases h.2 with ⟨e,_⟩ | ⟨g,cap,cur,e,_,h6,_⟩
 ·rw [e] at q;cases q
 ·rw [e] at q;have q:g=V:=by simpa [Value.ownBlock] using q
  subst q;rw [h6] at hV;simp only [oI,cI] at hV;exact ht hV.2.1.symm
def rowE (l:List Val):Int:=if 3<l.length then 2 else if keyErr l≠0 then 62 else if l.any (fun x=>decide (8<rcn x.2.2))=true then 62 else 0
def rowB (l:List Val):List Nat:=encW l.length++keyBytes l
theorem aBo:∀ {l:List Val},keyErr l=0->∀ x∈l,x.err=0
 | [],_,x,hx=>by simp at hx
 | y::l,h,x,hx=>by
  unfold keyErr at h
  by_cases e:y.err=0
  ·rw [if_pos e] at h
   rcases List.mem_cons.1 hx with rfl | hx
   ·exact e
   ·exact aBo h x hx
  ·rw [if_neg e] at h
   exact absurd h e
theorem SV.vs (h:SV fV 3 w a n c l) (hn:n<=1000) (hok:∀ x∈l,x.ok):VS w a n c l:=by
 refine ⟨h.hl,h.hc,by omega,h.hm,hok,fun b o e i hi=>?_,fun h0=>?_⟩
 ·obtain ⟨b',o',e',_,h3⟩:=h.pl (by omega);rw [e] at e';simp only [oI,Addr.mk.injEq] at e';obtain ⟨rfl,rfl,_⟩:=e';obtain ⟨x,hx⟩:∃ x,l[i]?=some x:=⟨_,gE (by rw [h.hl];exact hi)⟩;have hg:l.getD i (0,0,⟨#[]⟩)=x:=by rw [List.getD_eq_getElem?_getD,hx];rfl
  rw [hg];exact ⟨h3 i x hx 0 (by omega),h3 i x hx 1 (by omega),h3 i x hx 2 (by omega)⟩
 ·obtain ⟨b,o,e,_⟩:=h.pl h0;exact ⟨b,o,e⟩
def EncR (l:List Val) (B:Nat) (e:Ending) (w':World):Prop:=∃ v,e=.returned (.tuple #[v,.int .i64 (rowE l)])/\(rowE l=0->OB B w' v (rowB l))/\(rowE l≠0->v=.slice none 0 0)
end Go.Proofs.YtmmcebojbbdfmaaGreat
