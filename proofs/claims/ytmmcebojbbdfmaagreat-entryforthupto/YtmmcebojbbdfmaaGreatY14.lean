import Derived.Test.YtmmcebojbbdfmaaGreatY10
import Derived.Outline
import Derived.OpenShut
import Derived.Deep.DrawnRows
import Derived.BigRegion
import Derived.Handy
set_option maxRecDepth 100000
set_option maxHeartbeats 16000000
set_option linter.unusedVariables false
namespace Go.Proofs.YtmmcebojbbdfmaaGreat
open Go.RowKit
theorem zH {p:Prop} (h:p):Hid p:=h
theorem _root_.Go.RowKit.Hid.o {p:Prop} (h:Hid p):p:=h
def great (r:Nat):Prop:=(65<=r/\r<=90)\/(192<=r/\r<=222/\r≠215)\/(913<=r/\r<=937/\r≠930)\/(1040<=r/\r<=1071)
instance (r:Nat):Decidable (great r):=by unfold great;infer_instance
def foldR (r:Nat):Nat:=if great r then r+32 else r
theorem encs_le (rs:List Nat):(encs rs).length<=4*rs.length:=by
 induction rs with
 | nil=>simp [encs]
 | cons r rs ih =>
  have:=aE1 r;have e:(encs (r::rs)).length=(enc r).length+(encs rs).length:=by simp [encs]
  simp only [List.length_cons];omega
end Go.Proofs.YtmmcebojbbdfmaaGreat
