import Derived.Test.YthgleplmbnkacaaGreatY32
import Derived.Lib.Overlaps
set_option maxRecDepth 100000
set_option maxHeartbeats 16000000
