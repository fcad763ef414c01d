import Derived.Test.YtibfkdjbnaeneaaGreatZ33
import Derived.Lib.AppendZeros
set_option maxRecDepth 100000
set_option maxHeartbeats 16000000
set_option linter.unusedVariables false
namespace Go.Proofs.YtibfkdjbnaeneaaGreat
open Go.RowKit
def SrcC (w:World) (size:Nat) (u:Value) (s:Nat×List Value):Prop:=∃ ad c,u=.slice (some ad) s.1 c∧s.2.length=s.1*size∧(∀ j v,s.2[j]?=some v→w.cell? (ad.add j)=some v)∧∀ v∈s.2,v.oneCell'=true
theorem SrcC.later {w w':World} {size:Nat} {u:Value} {s:Nat×List Value} (h:SrcC w size u s) (hb:Below w.heap.size w w'):SrcC w' size u s:=by
 obtain ⟨ad,c,e,h1,h2,h3⟩:=h
 exact ⟨ad,c,e,h1,fun j v hj=>(hb.cell (block_lt_of_cell (h2 j v hj))).trans (h2 j v hj),h3⟩
end Go.Proofs.YtibfkdjbnaeneaaGreat
