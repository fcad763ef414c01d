import Derived.Test.YtlmaolfajcgmiaaGreatZ43
import Derived.Test.YtlmaolfajcgmiaaGreatZ34
import Derived.LaidEqlPtr
set_option maxRecDepth 100000
set_option maxHeartbeats 16000000
set_option linter.unusedVariables false
namespace Go.Proofs.YtlmaolfajcgmiaaGreat
open Go.RowKit
def shf (cur:Array Value) (j:Nat) (arr:Array Value):Prop:=arr.size=cur.size∧∀ i,arr[i]?=if i<j-1 then cur[i+1]? else cur[i]?
theorem shf.set {cur arr:Array Value} {j:Nat} {v:Value} (h:shf cur j arr) (h1:1≤j) (hv:cur[j]?=some v):shf cur (j+1) (arr.setIfInBounds (j-1) v):=by
 have hlt:=(lO hv)
 refine ⟨by rw [Array.size_setIfInBounds];exact h.1,fun i=>?_⟩
 by_cases c:i=j-1
 ·subst c
  rw [Array.getElem?_setIfInBounds_self_of_lt (by rw [h.1];omega),if_pos (by omega),show j-1+1=j by omega]
  exact hv.symm
 ·rw [Array.getElem?_setIfInBounds_ne (Ne.symm c),h.2 i]
  by_cases c2:i<j-1
  ·rw [if_pos c2,if_pos (by omega)]
  ·rw [if_neg c2,if_neg (by omega)]
def ClF (B g nb:Nat) (sv:Value) (w w':World):Prop:=Below B w w'∧∀ (k:Nat) (cs:Array Value) (t:TypeId) (fz:Nat×Nat),w.heap[k]?=some (Obj.cells cs t fz)→NT t→k≠g→k≠nb→some k≠sv.ownBlock→w'.heap[k]?=some (Obj.cells cs t fz)
end Go.Proofs.YtlmaolfajcgmiaaGreat
