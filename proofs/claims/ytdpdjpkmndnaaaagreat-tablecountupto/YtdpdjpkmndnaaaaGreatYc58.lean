import Derived.Test.YtdpdjpkmndnaaaaGreatRows
import Derived.Test.YtdpdjpkmndnaaaaGreatYc42
import Derived.ProofKit
import Derived.ShutString
import Derived.ChangeOld
import Derived.SizedLaws
import Derived.JoinedCond
import Derived.Deep.DeepHandedRow
import Derived.Lay
import Derived.Lib.SmallJoins
import Derived.ChangeMaps5
set_option maxRecDepth 100000
set_option maxHeartbeats 16000000
namespace Go.Proofs.YtdpdjpkmndnaaaaGreat
open Go.ChangeShapes Go.WideShapes Go.ChangeAt Go.RowKit
variable {H:Type} {j:Nat}
set_option linter.unusedVariables false
theorem ownK:ownKnob Tryz.prog.godebug=none:=by kernel_rfl
theorem laidOutK:laidOutB Tryz.prog=true:=by kernel_rfl
theorem bulk_one (d:DataW H):1<=Rows.uptoBulk d:=by
 cases d with
 | lit l=>cases l<;>simp [Rows.uptoBulk]
 | nil=>simp [Rows.uptoBulk]
 | ptr d=>simp [Rows.uptoBulk]
 | slice elems spare=>simp [Rows.uptoBulk]
 | agg parts=>simp [Rows.uptoBulk]
 | iface t d=>simp [Rows.uptoBulk]
 | map entries=>simp [Rows.uptoBulk]
 | held h=>simp [Rows.uptoBulk]
theorem bulk_length (l:List (DataW H)):l.length<=Rows.uptoBulkAll l:=by
 induction l with
 | nil=>simp [Rows.uptoBulkAll]
 | cons x r ih=>have:=bulk_one x;simp only [Rows.uptoBulkAll,List.length_cons];omega
theorem aFu {H:Type}:∀ {l:List (DataW H)} {j:Nat} {d:DataW H},l[j]?=some d->Rows.uptoBulk d<=Rows.uptoBulkAll l
 | [],_,_,h=>by simp at h
 | x::r,0,d,h=>by simp at h;subst h;simp only [Rows.uptoBulkAll];omega
 | x::r,j+1,d,h=>by have:=aFu (l:=r) (j:=j) (d:=d) (by simpa using h);simp only [Rows.uptoBulkAll];omega
theorem bulk_le {ds:List (DataW H)} {d:DataW H} (hk:Rows.uptoSmall H ds=true) (hd:ds[j]?=some d):Rows.uptoBulk d<=1048576:=by
 have hb:Rows.uptoBulkAll ds<=1048576:=of_decide_eq_true hk;exact nT (aFu hd) hb
theorem size_of_list (s:ByteArray):s.data.toList.length=s.size:=by cases s;simp [ByteArray.size]
end Go.Proofs.YtdpdjpkmndnaaaaGreat
