import Derived.Test.YtmmcebojbbdfmaaGreatRows
import Derived.Test.YtmmcebojbbdfmaaGreatY22
import Derived.ProofKit
import Derived.ShutString
import Derived.ChangeOld
import Derived.SizedLaws
import Derived.JoinedCond
import Derived.Deep.DeepHandedRow
import Derived.Lay
import Derived.Lib.SmallJoins
import Derived.ChangeMaps5
set_option maxRecDepth 100000
set_option maxHeartbeats 16000000
namespace Go.Proofs.YtmmcebojbbdfmaaGreat
open Go.ChangeShapes Go.WideShapes Go.ChangeAt Go.RowKit
variable {H:Type} {W:World} {j:Nat}
set_option linter.unusedVariables false
theorem own:ownKnob Tryz.prog.godebug=none:=by kernel_rfl
theorem laidOut:laidOutB Tryz.prog=true:=by kernel_rfl
theorem bulk_one (d:DataW H):1<=Rows.uptoBulk d:=by
 cases d with
 | lit l=>cases l<;>simp [Rows.uptoBulk]
 | nil=>simp [Rows.uptoBulk]
 | ptr d=>simp [Rows.uptoBulk]
 | slice elems spare=>simp [Rows.uptoBulk]
 | agg parts=>simp [Rows.uptoBulk]
 | iface t d=>simp [Rows.uptoBulk]
 | map entries=>simp [Rows.uptoBulk]
 | held h=>simp [Rows.uptoBulk]
theorem aE6 (l:List (DataW H)):l.length<=Rows.uptoBulkAll l:=by
 induction l with
 | nil=>simp [Rows.uptoBulkAll]
 | cons x r ih=>have:=bulk_one x;simp only [Rows.uptoBulkAll,List.length_cons];omega
theorem aCv {H:Type}:∀ {l:List (DataW H)} {j:Nat} {d:DataW H},l[j]?=some d->Rows.uptoBulk d<=Rows.uptoBulkAll l
 | [],_,_,h=>by simp at h
 | x::r,0,d,h=>by simp at h;subst h;simp only [Rows.uptoBulkAll];omega
 | x::r,j+1,d,h=>by have:=aCv (l:=r) (j:=j) (d:=d) (by simpa using h);simp only [Rows.uptoBulkAll];omega
theorem bulk_le {ds:List (DataW H)} {d:DataW H} (hk:Rows.uptoSmall H ds=true) (hd:ds[j]?=some d):Rows.uptoBulk d<=1048576:=by
 have hb:Rows.uptoBulkAll ds<=1048576:=of_decide_eq_true hk;exact nT (aCv hd) hb
theorem size_of_list (s:ByteArray):s.data.toList.length=s.size:=by cases s;simp [ByteArray.size]
theorem u8_bounds {n:Int} (h:(Lit.int .u8 n).wf=true):0<=n/\n<256:=by
 have:=bounds_u8 h;omega
theorem open_bs_upto {enc:TypeId×Value->H} {a0:Option Addr} {len0 cap0:Nat} {d0:DataW H} {p0:List MemPlace} {ds:List (DataW H)} (j:Nat)
  (hk:Rows.uptoSmall H ds=true) (hd:ds[j]?=some d0)
  (h0:DataW.Trod enc Tryz.prog W 0 (fun _=>true) true 26 (.slice a0 len0 cap0) d0 p0):∃ xs,BS W a0 len0 cap0 xs/\len0<=1048576:=by
 have hb:Rows.uptoBulkAll ds<=1048576:=of_decide_eq_true hk;have hp:=aCv hd;obtain ⟨fuel,hf⟩:=h0;rcases open_ints Tryz.underlying26 Tryz.underlying5 (by kernel_rfl) hf with ⟨hcs,_⟩ | ⟨x,l,c,zs,hcs,_,hl,hm,hz,hx,hcell,hwz⟩
 ·simp [Value.cells] at hcs;obtain ⟨rfl,rfl,rfl⟩:=hcs;exact ⟨[],BS.none _ _ _ (by omega) (fun _=>rfl),by omega⟩
 ·simp [Value.cells] at hcs;obtain ⟨rfl,rfl,rfl⟩:=hcs;simp only [Prod.mk.injEq] at hx;obtain ⟨rfl,_⟩:=hx;simp only [Rows.uptoBulk] at hp;have h1:=aE6 (lits (H:=H) .u8 (zs.take len0));simp only [lits,List.length_map,List.length_take] at h1;simp only [if_true] at hz;simp only [lits] at hp;have hb2:len0<=1048576:=by omega
  unfold maxLen at hm;refine ⟨(zs.take len0).map Int.toNat,⟨by simp;omega,hl,by omega,hm,?_,by simp,?_⟩,hb2⟩
  ·intro n hn;simp only [List.mem_map] at hn;obtain ⟨z,hz1,rfl⟩:=hn;have:=u8_bounds (hwz z (List.mem_of_mem_take hz1));omega
  ·intro y hy i hi;simp at hy;subst hy;rw [hcell i (by omega)];have hi':i<zs.length:=by omega
   have hb3:=u8_bounds (hwz zs[i] (List.getElem_mem hi'));simp only [List.getD_eq_getElem?_getD,List.getElem?_map,List.getElem?_take_of_lt hi,gE hi',Option.map_some,Option.getD_some];rw [Int.toNat_of_nonneg hb3.1]
end Go.Proofs.YtmmcebojbbdfmaaGreat
