import Derived.Test.YtmmcebojbbdfmaaGreatY10
import Derived.Deep.OwnRows
import Derived.Outline
import Derived.OpenShut
import Derived.Deep.DrawnRows
import Derived.BigRegion
import Derived.PlainAid
import Derived.Handy
set_option maxRecDepth 100000
set_option maxHeartbeats 16000000
