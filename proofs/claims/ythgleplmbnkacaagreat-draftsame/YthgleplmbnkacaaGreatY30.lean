import Derived.Test.YthgleplmbnkacaaGreatY29
import Derived.Deep.RegionLaw
set_option maxRecDepth 100000
set_option maxHeartbeats 16000000
set_option linter.unusedVariables false
namespace Go.Proofs.YthgleplmbnkacaaGreat
open Go.RowKit
theorem setCells_row {w:World} {g o:Nat} {t:TypeId} {cur:Array Value} {vs:List Value} (hg:w.heap[g]?=some (.cells cur t (0,0))) (hl:o+vs.length≤cur.size) (h1:∀ v∈vs,v.oneCell'=true):w.setCells g o vs=w.setRow g (cur.toList.take o++vs++cur.toList.drop (o+vs.length)).toArray:=by
 have a1:=run_storeCells_cells (P:=Tryz.prog) g o vs 0 w (fun j hj=>by rw [aAa hg,Array.getElem?_eq_getElem (by omega)];rfl) (fun j hj=>aAd hg) h1
 have a2:=run_storeCells_at Tryz.prog g o t vs 0 cur w hg (by omega) h1
 rw [a1] at a2
 simp only [Result.ok.injEq,true_and,Nat.add_zero] at a2
 exact a2
end Go.Proofs.YthgleplmbnkacaaGreat
