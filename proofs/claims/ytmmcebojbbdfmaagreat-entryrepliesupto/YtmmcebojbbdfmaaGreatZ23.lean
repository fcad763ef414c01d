import Derived.Test.YtmmcebojbbdfmaaGreatZ19
import Derived.Test.YtmmcebojbbdfmaaGreatZ8
import Derived.Test.YtmmcebojbbdfmaaGreatZ14
set_option maxRecDepth 100000
set_option maxHeartbeats 16000000
set_option linter.unusedVariables false
namespace Go.Proofs.YtmmcebojbbdfmaaGreat
open Go.RowKit
def part (rs:List Nat) (k:Nat):List Nat:=(rs.take k).map foldR++rs.drop k
end Go.Proofs.YtmmcebojbbdfmaaGreat
