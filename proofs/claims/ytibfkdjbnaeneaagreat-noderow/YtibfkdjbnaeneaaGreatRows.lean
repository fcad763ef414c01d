/-
  No cell of these rows narrows 'for every input' (looked for: loops, veiled, ifaces, maps, wideKeys, modest, calm, conditions, laid).
  DERIVED. THE GIVEN ROWS OF THIS SEAT. 2 by the template 'for every input the law returns true; each argument reads behind the call as it read before'; 0 by the template 'total and deterministic' (their statements: YtibfkdjbnaeneaaGreatTotals.lean).
  GIVEN WITH THE SEED: the statements are not yours to turn. If you find one false, say at which input.
  Laid BY PROGRAM, IN A SANDBOX (cutbox-rows.mjs): the forced cells as the released guide's own fill.sh prints them over the translation 91127f7145ac7f14… (all of the seat's roots in one cut). By AI agents, Wed Nov 11 2026. No macro, syntax, notation, axiom, sorry.
-/
import Derived.Test.YtibfkdjbnaeneaaGreatChecked
import GoSem.Claim
import GoSem.ClaimJoined
import GoSem.ClaimMapViews
import Derived.JoinedTies
import Derived.KernelRfl
namespace Go.Proofs.YtibfkdjbnaeneaaGreat
/- THE CELL 'sum', in the pinned program and in every row, IS THE sha256 OF THE DUMP (.gsa) THAT YtibfkdjbnaeneaaGreatProg.lean LOADS. Nothing in Lean hashes anything: it is a label: what it is worth is what the hold of that sum in a sandbox is worth. -/
noncomputable def Tryz.pinned : Pinned := { name := "ytibfkdjbnaeneaagreat", sum := "91127f7145ac7f140fe28b1212010c6e2b4d011de3be0f07e8ee67e9c5a3cdf6", checked := Tryz.checked }
namespace Rows
def none {H : Type} : Left H := { results := [], args := [] }

/-- 'headlandlaw8.NodeRow': WHATEVER THE INPUT: true; the input reads as it did. -/
def nodeRowSpec : ChangeSpec := { name := "nodeRow", fn := fun _ => fun
  | [d1, d2] => { results := [.lit (.bool true)], args := [d1, d2] }
  | _ => none }
def nodeRowRow : OpenClaim := { program := "ytibfkdjbnaeneaagreat", sum := "91127f7145ac7f140fe28b1212010c6e2b4d011de3be0f07e8ee67e9c5a3cdf6", func := "headland/headlandlaw8.NodeRow", spec := "nodeRow", inPlace := ["internal/bytealg.Compare", "slices.overlaps[headland/tree.item]", "slices.overlaps[headland/tree.node]"], unfollowed := true, recurses := true, apart := false }
def NodeRowSaid : Prop := nodeRowRow.holds Tryz.pinned (OpenSpec.ofChange nodeRowSpec)

/-- ITS FALSE NEIGHBOUR: 'it returns false'. Refute it at one input. -/
def nodeRowWrong : ChangeSpec := { name := "nodeRow", fn := fun _ => fun
  | [d1, d2] => { results := [.lit (.bool false)], args := [d1, d2] }
  | _ => none }
def NodeRowWrongFalsely : Prop := nodeRowRow.holds Tryz.pinned (OpenSpec.ofChange nodeRowWrong)

/-- 'headlandlaw8.NodeApart': WHATEVER THE INPUT: true; the input reads as it did. -/
def nodeApartSpec : ChangeSpec := { name := "nodeApart", fn := fun _ => fun
  | [d1, d2, d3] => { results := [.lit (.bool true)], args := [d1, d2, d3] }
  | _ => none }
def nodeApartRow : OpenClaim := { program := "ytibfkdjbnaeneaagreat", sum := "91127f7145ac7f140fe28b1212010c6e2b4d011de3be0f07e8ee67e9c5a3cdf6", func := "headland/headlandlaw8.NodeApart", spec := "nodeApart", inPlace := ["internal/bytealg.Compare", "slices.overlaps[headland/tree.item]", "slices.overlaps[headland/tree.node]"], unfollowed := true, recurses := true, apart := false }
def NodeApartSaid : Prop := nodeApartRow.holds Tryz.pinned (OpenSpec.ofChange nodeApartSpec)

/-- ITS FALSE NEIGHBOUR: 'it returns false'. Refute it at one input. -/
def nodeApartWrong : ChangeSpec := { name := "nodeApart", fn := fun _ => fun
  | [d1, d2, d3] => { results := [.lit (.bool false)], args := [d1, d2, d3] }
  | _ => none }
def NodeApartWrongFalsely : Prop := nodeApartRow.holds Tryz.pinned (OpenSpec.ofChange nodeApartWrong)

/- THE SECOND FORM. 'bulk': how many values and letters a reading holds, each counted each time it is reached (what is shared counts as often as it is met; a slice's spare places count too). A statement '..UptoSaid' is the law's where the arguments, and the package variables that the reading takes, are together of bulk at most 1048576: NARROWER than '..Said'. Prove '..Said' where nothing that the law and all that it calls make is longer than what came in: it says more and counts as full. Else prove '..UptoSaid'. A law counts once. -/
mutual
def uptoBulk {H : Type} : DataW H → Nat
  | .lit (.string bytes) => bytes.length + 1
  | .lit _ => 1
  | .nil => 1
  | .ptr d => uptoBulk d + 1
  | .slice elems spare => uptoBulkAll elems + uptoBulkAll spare + 1
  | .agg parts => uptoBulkAll parts + 1
  | .iface _ d => uptoBulk d + 1
  | .map entries => uptoBulkEntries entries + 1
  | .held _ => 1
def uptoBulkAll {H : Type} : List (DataW H) → Nat
  | [] => 0
  | d :: r => uptoBulk d + uptoBulkAll r
def uptoBulkEntries {H : Type} : List (Lit × DataW H) → Nat
  | [] => 0
  | x :: r => uptoBulkEntry x + uptoBulkEntries r
def uptoBulkEntry {H : Type} : Lit × DataW H → Nat
  | (.string bytes, d) => bytes.length + uptoBulk d + 1
  | (_, d) => uptoBulk d + 1
 end
def uptoSmall : (H : Type) → List (DataW H) → Bool := fun _ ds => decide (uptoBulkAll ds ≤ 1048576)
def OpenSpec.upto (s : _root_.Go.ChangeSpec) : _root_.Go.OpenSpec := { _root_.Go.OpenSpec.ofChange s with cond := some uptoSmall }

/-- 'headlandlaw8.NodeRow', WHERE WHAT IT READS IS OF BULK AT MOST 1048576: true; the input reads as it did. -/
def nodeRowUptoRow : OpenClaim := { program := "ytibfkdjbnaeneaagreat", sum := "91127f7145ac7f140fe28b1212010c6e2b4d011de3be0f07e8ee67e9c5a3cdf6", func := "headland/headlandlaw8.NodeRow", spec := "nodeRow", inPlace := ["internal/bytealg.Compare", "slices.overlaps[headland/tree.item]", "slices.overlaps[headland/tree.node]"], unfollowed := true, recurses := true, apart := false, narrowed := true }
def NodeRowUptoSaid : Prop := nodeRowUptoRow.holds Tryz.pinned (OpenSpec.upto nodeRowSpec)

/-- 'headlandlaw8.NodeApart', WHERE WHAT IT READS IS OF BULK AT MOST 1048576: true; the input reads as it did. -/
def nodeApartUptoRow : OpenClaim := { program := "ytibfkdjbnaeneaagreat", sum := "91127f7145ac7f140fe28b1212010c6e2b4d011de3be0f07e8ee67e9c5a3cdf6", func := "headland/headlandlaw8.NodeApart", spec := "nodeApart", inPlace := ["internal/bytealg.Compare", "slices.overlaps[headland/tree.item]", "slices.overlaps[headland/tree.node]"], unfollowed := true, recurses := true, apart := false, narrowed := true }
def NodeApartUptoSaid : Prop := nodeApartUptoRow.holds Tryz.pinned (OpenSpec.upto nodeApartSpec)

end Rows
end Go.Proofs.YtibfkdjbnaeneaaGreat
