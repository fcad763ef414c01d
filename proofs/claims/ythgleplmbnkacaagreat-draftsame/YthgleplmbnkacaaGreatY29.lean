import Derived.Test.YthgleplmbnkacaaGreatY28
import Derived.Lib.AppendZerosOnto
set_option maxRecDepth 100000
set_option maxHeartbeats 16000000
set_option linter.unusedVariables false
namespace Go.Proofs.YthgleplmbnkacaaGreat
open Go.RowKit
theorem setRow_at {w:World} {g:Nat} {cur new:Array Value} {t:TypeId} (hg:w.heap[g]?=some (.cells cur t (0,0))):(w.setRow g new).heap[g]?=some (.cells new t (0,0)):=setRow_heap w g cur new t _ hg
def lfP (g:Nat):Value:=.iface 205 (.pointer (some ⟨g,0,none⟩))
def brP (g:Nat):Value:=.iface 232 (.pointer (some ⟨g,0,none⟩))
theorem aBt {w:World} {g:Nat} {iv:Value} (h:w.heap[g]?=some (.cells #[iv] 208 (0,0))) :
  Calls Tryz.prog 149 #[lfP g] w fun e w'=>e=.returned iv∧w'=w:=by
 have t1:=aBl (.pointer (some ⟨g,0,none⟩)) w
 have t2:=asr_leaf (.pointer (some ⟨g,0,none⟩)) w
 have r0:w.cell? ⟨g,0,none⟩=some iv:=aAa h
 unfold lfP
 clear h
 go_enter Tryz.func149,Tryz.ntmps149
 go_wp2
 go_ret
 exact ⟨rfl,rfl⟩
theorem aA9 {w:World} {g:Nat} {iv cv:Value} (h:w.heap[g]?=some (.cells #[iv,cv] 236 (0,0))) :
  Calls Tryz.prog 149 #[brP g] w fun e w'=>e=.returned iv∧w'=w:=by
 have t1:=aBa (.pointer (some ⟨g,0,none⟩)) w
 have r0:w.cell? ⟨g,0,none⟩=some iv:=aAa h
 unfold brP
 clear h
 go_enter Tryz.func149,Tryz.ntmps149
 go_wp2
 go_ret
 exact ⟨rfl,rfl⟩
def plC (l:List Nat):List Value:=l.map fun (i:Nat)=>Value.int .i64 (i:Int)
def Ex (B:Nat) (S:List Nat) (w w':World):Prop:=Below B w w'∧∀ k,k<w.heap.size→k∉S→w'.heap[k]?=w.heap[k]?
structure PgI (s:DS) (t:PS) (i:Nat) (b:List Nat):Prop where
 lt:i<s.n
 of:t.of (i:Int)=2
 pg:pageOf (pad (s.show i))=some b
 ln:b.length≤8192
 bt:∀ c∈b,c<256
structure ItsOk (l:List It):Prop where
 n1:1≤l.length
 n4:l.length≤4
 ok:∀ x∈l,ItOk x
 so:Srt l
def OnD (s:DS) (t:PS):(h:Nat)→BT h→Prop
 | 0,b=>PgI s t b.1 (leafB b.2)∧ItsOk b.2
 | h+1,b=>PgI s t b.1 (branB b.2.1 (b.2.2.map BT.id))∧ItsOk b.2.1∧b.2.2.length=b.2.1.length+1∧(∀ k∈b.2.2,BT.id k<9223372036854775808)∧∀ k∈b.2.2,OnD s t h k
end Go.Proofs.YthgleplmbnkacaaGreat
