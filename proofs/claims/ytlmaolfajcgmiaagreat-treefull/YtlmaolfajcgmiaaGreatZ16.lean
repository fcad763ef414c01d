import Derived.Test.YtlmaolfajcgmiaaGreatRows
import Derived.Test.YtlmaolfajcgmiaaGreatZ5
import Derived.ProofKit
import Derived.OpenShut
import Derived.ShutString
import Derived.ChangeOld
import Derived.Below
import Derived.SizedLaws
set_option maxRecDepth 100000
set_option maxHeartbeats 16000000
namespace Go.Proofs.YtlmaolfajcgmiaaGreat
open Go.ChangeShapes Go.WideShapes Go.ChangeAt Go.RowKit
theorem own:ownKnob Tryz.prog.godebug=none:=by kernel_rfl
theorem laidOut:laidOutB Tryz.prog=true:=by kernel_rfl
theorem bytes5:Tryz.prog.bytesOf 5=1:=by kernel_rfl
theorem aC9 {n:Int} (h:(Lit.int .u8 n).wf=true):0≤n∧n<256:=by
 have:=bounds_u8 h
 omega
theorem open_bs {H:Type} {enc:TypeId×Value→H} {W:World} {a0:Option Addr} {len0 cap0:Nat} {d0:DataW H} {p0:List MemPlace} {ts:List TypeId} {ds:List (DataW H)} (j:Nat)
  (hsz:(DataW.weightsEach Tryz.prog ts ds).all (·≤reachBytes)=true) (ht:ts[j]?=some 30) (hd:ds[j]?=some d0)
  (h0:DataW.Trod enc Tryz.prog W 0 (fun _=>true) true 30 (.slice a0 len0 cap0) d0 p0):∃ xs,BS W a0 len0 cap0 xs∧len0≤140737488351232:=by
 obtain ⟨fuel,hf⟩:=h0
 rcases open_ints Tryz.underlying30 Tryz.underlying5 (by kernel_rfl) hf with ⟨hcs,_⟩ | ⟨x,l,c,zs,hcs,_,hl,hm,hz,hx,hcell,hwz⟩
 ·simp [Value.cells] at hcs
  obtain ⟨rfl,rfl,rfl⟩:=hcs
  exact ⟨[],BS.none _ _ _ (by omega) (fun _=>rfl),by omega⟩
 ·simp [Value.cells] at hcs
  obtain ⟨rfl,rfl,rfl⟩:=hcs
  simp only [Prod.mk.injEq] at hx
  obtain ⟨rfl,_⟩:=hx
  have hs:=sized_slice hsz ht hd Tryz.underlying30
  rw [bytes5] at hs
  simp only [if_true] at hz
  simp only [lits,List.length_map,List.length_take,List.length_drop,reachBytes] at hs
  have hb:len0≤140737488351232:=by omega
  unfold maxLen at hm
  refine ⟨(zs.take len0).map Int.toNat,⟨by simp;omega,hl,by omega,hm,?_,by simp,?_⟩,hb⟩
  ·intro n hn
   simp only [List.mem_map] at hn
   obtain ⟨z,hz1,rfl⟩:=hn
   have:=aC9 (hwz z (List.mem_of_mem_take hz1))
   omega
  ·intro y hy i hi
   simp at hy
   subst hy
   rw [hcell i (by omega)]
   have hi':i<zs.length:=by omega
   have hb2:=aC9 (hwz zs[i] (List.getElem_mem hi'))
   simp only [List.getD_eq_getElem?_getD,List.getElem?_map,List.getElem?_take_of_lt hi,gE hi',Option.map_some,Option.getD_some]
   rw [Int.toNat_of_nonneg hb2.1]
end Go.Proofs.YtlmaolfajcgmiaaGreat
