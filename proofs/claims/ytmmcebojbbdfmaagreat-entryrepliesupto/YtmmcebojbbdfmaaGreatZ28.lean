import Derived.Test.YtmmcebojbbdfmaaGreatRows
import Derived.Test.YtmmcebojbbdfmaaGreatZ22
import Derived.ProofKit
import Derived.ShutString
import Derived.ChangeOld
import Derived.SizedLaws
import Derived.JoinedCond
import Derived.Deep.DeepHandedRow
import Derived.Lay
import Derived.Lib.SmallJoins
import Derived.ChangeMaps5
set_option maxRecDepth 100000
set_option maxHeartbeats 16000000
namespace Go.Proofs.YtmmcebojbbdfmaaGreat
open Go.ChangeShapes Go.WideShapes Go.ChangeAt Go.RowKit
set_option linter.unusedVariables false
theorem own:ownKnob Tryz.prog.godebug=none:=by kernel_rfl
theorem laidOut:laidOutB Tryz.prog=true:=by kernel_rfl
theorem bulk_one {H:Type} (d:DataW H):1≤Rows.uptoBulk d:=by
 cases d with
 | lit l=>cases l<;>simp [Rows.uptoBulk]
 | nil=>simp [Rows.uptoBulk]
 | ptr d=>simp [Rows.uptoBulk]
 | slice elems spare=>simp [Rows.uptoBulk]
 | agg parts=>simp [Rows.uptoBulk]
 | iface t d=>simp [Rows.uptoBulk]
 | map entries=>simp [Rows.uptoBulk]
 | held h=>simp [Rows.uptoBulk]
theorem bulk_length {H:Type} (l:List (DataW H)):l.length≤Rows.uptoBulkAll l:=by
 induction l with
 | nil=>simp [Rows.uptoBulkAll]
 | cons x r ih=>have:=bulk_one x;simp only [Rows.uptoBulkAll,List.length_cons];omega
theorem aCq {H:Type}:∀ {l:List (DataW H)} {j:Nat} {d:DataW H},l[j]?=some d→Rows.uptoBulk d≤Rows.uptoBulkAll l
 | [],_,_,h=>by simp at h
 | x::r,0,d,h=>by simp at h;subst h;simp only [Rows.uptoBulkAll];omega
 | x::r,j+1,d,h=>by have:=aCq (l:=r) (j:=j) (d:=d) (by simpa using h);simp only [Rows.uptoBulkAll];omega
theorem bulk_le {H:Type} {ds:List (DataW H)} {j:Nat} {d:DataW H} (hk:Rows.uptoSmall H ds=true) (hd:ds[j]?=some d):Rows.uptoBulk d≤1048576:=by
 have hb:Rows.uptoBulkAll ds≤1048576:=of_decide_eq_true hk
 exact nT (aCq hd) hb
theorem size_of_list (s:ByteArray):s.data.toList.length=s.size:=by cases s;simp [ByteArray.size]
end Go.Proofs.YtmmcebojbbdfmaaGreat
