import Derived.Test.YtohgmapjokaibaaGreatZ18
import Derived.Deep.SlicePairs
import Derived.Deep.Matrix
set_option maxRecDepth 100000
set_option maxHeartbeats 16000000
namespace Go.Proofs.YtohgmapjokaibaaGreat
open Go.ChangeShapes Go.WideShapes Go.ChangeAt Go.RowKit
set_option linter.unusedVariables false
structure TXS (W:World) (a1:Option Addr) (T lim:Nat) (b1 o1:Nat) (A:Nat→Option Addr) (L C:Nat→Nat) (tf:Nat→List Nat):Prop where
 hl:T≤9223372036854775807
 place:0<T→a1=some ⟨b1,o1,none⟩
 cell:∀ r,r<T→W.cell? ⟨b1,o1+r,none⟩=some (.slice (A r) (L r) (C r))
 cap:∀ r,r<T→L r≤C r∧C r≤9223372036854775807
 bs:∀ r,r<T→BS W (A r) (min (L r) lim) (C r) (tf r)
theorem open_texts {H:Type} {enc:TypeId×Value→H} {W:World} {a1:Option Addr} {T cap1:Nat} {d1:DataW H} {p1:List MemPlace} (lim:Nat) (hlim:lim≤10000)
  (h1:DataW.Trod enc Tryz.prog W 0 (fun _=>true) true 22 (.slice a1 T cap1) d1 p1) :
  ∃ (b1 o1:Nat) (A:Nat→Option Addr) (L C:Nat→Nat) (tf:Nat→List Nat),TXS W a1 T lim b1 o1 A L C tf:=by
 obtain ⟨fuel,hf⟩:=h1
 rcases Deep.open_int_rows Tryz.underlying22 Tryz.underlying28 Tryz.underlying5 (by kernel_rfl) (by kernel_rfl) hf with ⟨hcs,_⟩ | ⟨x,len,cap,A,L,C,Z,hcs,_,hl,hm,_,hrow⟩
 ·simp [Value.cells] at hcs
  obtain ⟨rfl,rfl,rfl⟩:=hcs
  exact ⟨0,0,fun _=>none,fun _=>0,fun _=>0,fun _=>[],by omega,fun h=>by omega,fun r h=>by omega,fun r h=>by omega,fun r h=>by omega⟩
 ·simp [Value.cells] at hcs
  obtain ⟨rfl,rfl,rfl⟩:=hcs
  unfold maxLen at hm
  obtain ⟨b,o,hbo⟩:∃ b o,0<T→x=⟨b,o,none⟩:=by
   rcases Nat.eq_zero_or_pos T with z | z
   ·exact ⟨0,0,fun h=>by omega⟩
   ·obtain ⟨b,o,hh⟩:=place_of (hrow 0 (by omega)).1
    exact ⟨b,o,fun _=>hh⟩
  have hby:∀ r,r<T→∀ n∈((Z r).take (min (L r) lim)).map Int.toNat,n<256:=fun r hr n hn=>by
   simp only [List.mem_map] at hn
   obtain ⟨z,hz1,rfl⟩:=hn
   have:=u8_bounds ((hrow r (by omega)).2.2.2.2.1 z (List.mem_of_mem_take hz1))
   omega
  refine ⟨b,o,A,L,C,fun r=>((Z r).take (min (L r) lim)).map Int.toNat,by omega,fun h=>by rw [hbo h],fun r hr=>?_,fun r hr=>?_,fun r hr=>?_⟩
  ·have:=(hrow r (by omega)).1
   rwa [hbo (by omega),add_plain] at this
  ·obtain ⟨_,h2,h3,_⟩:=hrow r (by omega)
   unfold maxLen at h3
   exact ⟨h2,by omega⟩
  ·obtain ⟨_,h2,h3,h4,h5,h6,h7⟩:=hrow r (by omega)
   unfold maxLen at h3
   refine ⟨by simp;omega,by omega,by omega,by omega,hby r hr,h6,fun y hy i hi=>?_⟩
   rw [(h7 y hy).2 i (by omega)]
   have hi':i<(Z r).length:=by omega
   have hb3:=u8_bounds (h5 (Z r)[i] (List.getElem_mem hi'))
   simp only [List.getD_eq_getElem?_getD,List.getElem?_map,List.getElem?_take_of_lt hi,gE hi',Option.map_some,Option.getD_some]
   rw [Int.toNat_of_nonneg hb3.1]
end Go.Proofs.YtohgmapjokaibaaGreat
