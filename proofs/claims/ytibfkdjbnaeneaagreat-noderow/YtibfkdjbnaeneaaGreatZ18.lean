import Derived.Test.YtibfkdjbnaeneaaGreatZ16
import Derived.Deep.Grids
set_option maxRecDepth 100000
set_option maxHeartbeats 16000000
namespace Go.Proofs.YtibfkdjbnaeneaaGreat
open Go.ChangeShapes Go.WideShapes Go.ChangeAt Go.RowKit Go.Deep
theorem place_of {w:World} {x:Addr} {v:Value} (h:w.cell? (x.add 0)=some v):∃ b o,x=⟨b,o,none⟩:=by
 obtain ⟨b,o,s⟩:=x
 have hs:s=none:=by simpa [Addr.add] using World.cell?_spot h
 subst hs
 exact ⟨b,o,rfl⟩
end Go.Proofs.YtibfkdjbnaeneaaGreat
