import Derived.Test.YtmmcebojbbdfmaaGreatY19
import Derived.Test.YtmmcebojbbdfmaaGreatY8
import Derived.Test.YtmmcebojbbdfmaaGreatY14
set_option maxRecDepth 100000
set_option maxHeartbeats 16000000
set_option linter.unusedVariables false
namespace Go.Proofs.YtmmcebojbbdfmaaGreat
open Go.RowKit
def n8 (l:List UInt8):List Nat:=l.map UInt8.toNat
def part (rs:List Nat) (k:Nat):List Nat:=(rs.take k).map foldR++rs.drop k
end Go.Proofs.YtmmcebojbbdfmaaGreat
