import Derived.Test.YthgleplmbnkacaaGreatY38
import Derived.Laws.Bits64b
set_option maxRecDepth 100000
set_option maxHeartbeats 16000000
