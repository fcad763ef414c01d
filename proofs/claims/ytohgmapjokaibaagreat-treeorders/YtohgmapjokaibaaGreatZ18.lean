import Derived.Test.YtohgmapjokaibaaGreatZ16
import Derived.Deep.Grids
set_option maxRecDepth 100000
set_option maxHeartbeats 16000000
namespace Go.Proofs.YtohgmapjokaibaaGreat
open Go.ChangeShapes Go.WideShapes Go.ChangeAt Go.RowKit Go.Deep
theorem place_of {w:World} {x:Addr} {v:Value} (h:w.cell? (x.add 0)=some v):∃ b o,x=⟨b,o,none⟩:=by
 obtain ⟨b,o,s⟩:=x
 have hs:s=none:=by simpa [Addr.add] using World.cell?_spot h
 subst hs
 exact ⟨b,o,rfl⟩
theorem open_bl {H:Type} {enc:TypeId×Value→H} {W:World} {a0:Option Addr} {len0 cap0:Nat} {d0:DataW H} {p0:List MemPlace}
  (h0:DataW.Trod enc Tryz.prog W 0 (fun _=>true) true 23 (.slice a0 len0 cap0) d0 p0) :
  ∃ Z:Nat→Bool,len0≤9223372036854775807∧(0<len0→∃ b o,a0=some ⟨b,o,none⟩∧∀ i,i<len0→W.cell? ⟨b,o+i,none⟩=some (.bool (Z i))):=by
 obtain ⟨fuel,hf⟩:=h0
 rcases open_bools Tryz.underlying23 Tryz.underlying4 (by kernel_rfl) hf with ⟨hcs,_⟩ | ⟨x,l,c,zs,hcs,_,hl,hm,_,hcell⟩
 ·simp [Value.cells] at hcs
  obtain ⟨rfl,rfl,rfl⟩:=hcs
  exact ⟨fun _=>false,by omega,fun h=>by omega⟩
 ·simp [Value.cells] at hcs
  obtain ⟨rfl,rfl,rfl⟩:=hcs
  unfold maxLen at hm
  refine ⟨zs,by omega,fun hpos=>?_⟩
  obtain ⟨b,o,rfl⟩:=place_of (hcell 0 (by omega))
  exact ⟨b,o,rfl,fun i hi=>by have:=hcell i (by omega);rwa [add_plain] at this⟩
end Go.Proofs.YtohgmapjokaibaaGreat
