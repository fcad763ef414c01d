/-
  No cell of these rows narrows 'for every input' (looked for: loops, veiled, ifaces, maps, wideKeys, modest, calm, conditions, laid).
  DERIVED. THE GIVEN ROWS OF THIS SEAT. 6 by the template 'for every input the law returns true; each argument reads behind the call as it read before'; 0 by the template 'total and deterministic' (their statements: YtlmaolfajcgmiaaGreatTotals.lean).
  GIVEN WITH THE SEED: the statements are not yours to turn. If you find one false, say at which input.
  Laid BY PROGRAM, IN A SANDBOX (cutbox-rows.mjs): the forced cells as the released guide's own fill.sh prints them over the translation 791b2b95a0f7b737… (all of the seat's roots in one cut). By AI agents, Wed Nov 11 2026. No macro, syntax, notation, axiom, sorry.
-/
import Derived.Test.YtlmaolfajcgmiaaGreatChecked
import GoSem.Claim
import GoSem.ClaimJoined
import GoSem.ClaimMapViews
import Derived.JoinedTies
import Derived.KernelRfl
namespace Go.Proofs.YtlmaolfajcgmiaaGreat
/- THE CELL 'sum', in the pinned program and in every row, IS THE sha256 OF THE DUMP (.gsa) THAT YtlmaolfajcgmiaaGreatProg.lean LOADS. Nothing in Lean hashes anything: it is a label: what it is worth is what the hold of that sum in a sandbox is worth. -/
noncomputable def Tryz.pinned : Pinned := { name := "ytlmaolfajcgmiaagreat", sum := "791b2b95a0f7b737e0a4a88917b4b9522d197ec5ed8e7dea4a34a7d3349a8728", checked := Tryz.checked }
namespace Rows
def none {H : Type} : Left H := { results := [], args := [] }

/-- 'headlandlaw5.TreePlays': WHATEVER THE INPUT: true; the input reads as it did. -/
def treePlaysSpec : ChangeSpec := { name := "treePlays", fn := fun _ => fun
  | [d] => { results := [.lit (.bool true)], args := [d] }
  | _ => none }
def treePlaysRow : OpenClaim := { program := "ytlmaolfajcgmiaagreat", sum := "791b2b95a0f7b737e0a4a88917b4b9522d197ec5ed8e7dea4a34a7d3349a8728", func := "headland/headlandlaw5.TreePlays", spec := "treePlays", inPlace := ["internal/bytealg.Compare", "slices.overlaps[headland/tree.item]", "slices.overlaps[headland/tree.node]"], unfollowed := true, recurses := true, apart := false }
def TreePlaysSaid : Prop := treePlaysRow.holds Tryz.pinned (OpenSpec.ofChange treePlaysSpec)

/-- ITS FALSE NEIGHBOUR: 'it returns false'. Refute it at one input. -/
def treePlaysWrong : ChangeSpec := { name := "treePlays", fn := fun _ => fun
  | [d] => { results := [.lit (.bool false)], args := [d] }
  | _ => none }
def TreePlaysWrongFalsely : Prop := treePlaysRow.holds Tryz.pinned (OpenSpec.ofChange treePlaysWrong)

/-- 'headlandlaw5.TreeShape': WHATEVER THE INPUT: true; the input reads as it did. -/
def treeShapeSpec : ChangeSpec := { name := "treeShape", fn := fun _ => fun
  | [d1, d2] => { results := [.lit (.bool true)], args := [d1, d2] }
  | _ => none }
def treeShapeRow : OpenClaim := { program := "ytlmaolfajcgmiaagreat", sum := "791b2b95a0f7b737e0a4a88917b4b9522d197ec5ed8e7dea4a34a7d3349a8728", func := "headland/headlandlaw5.TreeShape", spec := "treeShape", inPlace := ["internal/bytealg.Compare", "slices.overlaps[headland/tree.node]", "slices.overlaps[headland/tree.item]"], unfollowed := true, recurses := true, apart := false }
def TreeShapeSaid : Prop := treeShapeRow.holds Tryz.pinned (OpenSpec.ofChange treeShapeSpec)

/-- ITS FALSE NEIGHBOUR: 'it returns false'. Refute it at one input. -/
def treeShapeWrong : ChangeSpec := { name := "treeShape", fn := fun _ => fun
  | [d1, d2] => { results := [.lit (.bool false)], args := [d1, d2] }
  | _ => none }
def TreeShapeWrongFalsely : Prop := treeShapeRow.holds Tryz.pinned (OpenSpec.ofChange treeShapeWrong)

/-- 'headlandlaw5.TreeKeeps': WHATEVER THE INPUT: true; the input reads as it did. -/
def treeKeepsSpec : ChangeSpec := { name := "treeKeeps", fn := fun _ => fun
  | [d] => { results := [.lit (.bool true)], args := [d] }
  | _ => none }
def treeKeepsRow : OpenClaim := { program := "ytlmaolfajcgmiaagreat", sum := "791b2b95a0f7b737e0a4a88917b4b9522d197ec5ed8e7dea4a34a7d3349a8728", func := "headland/headlandlaw5.TreeKeeps", spec := "treeKeeps", inPlace := ["internal/bytealg.Compare", "slices.overlaps[headland/tree.node]", "slices.overlaps[headland/tree.item]"], unfollowed := true, recurses := true, apart := false }
def TreeKeepsSaid : Prop := treeKeepsRow.holds Tryz.pinned (OpenSpec.ofChange treeKeepsSpec)

/-- ITS FALSE NEIGHBOUR: 'it returns false'. Refute it at one input. -/
def treeKeepsWrong : ChangeSpec := { name := "treeKeeps", fn := fun _ => fun
  | [d] => { results := [.lit (.bool false)], args := [d] }
  | _ => none }
def TreeKeepsWrongFalsely : Prop := treeKeepsRow.holds Tryz.pinned (OpenSpec.ofChange treeKeepsWrong)

/-- 'headlandlaw5.TreeFull': WHATEVER THE INPUT: true; the input reads as it did. -/
def treeFullSpec : ChangeSpec := { name := "treeFull", fn := fun _ => fun
  | [d1, d2] => { results := [.lit (.bool true)], args := [d1, d2] }
  | _ => none }
def treeFullRow : OpenClaim := { program := "ytlmaolfajcgmiaagreat", sum := "791b2b95a0f7b737e0a4a88917b4b9522d197ec5ed8e7dea4a34a7d3349a8728", func := "headland/headlandlaw5.TreeFull", spec := "treeFull", inPlace := ["internal/bytealg.Compare", "slices.overlaps[headland/tree.item]", "slices.overlaps[headland/tree.node]"], unfollowed := true, recurses := true, apart := false }
def TreeFullSaid : Prop := treeFullRow.holds Tryz.pinned (OpenSpec.ofChange treeFullSpec)

/-- ITS FALSE NEIGHBOUR: 'it returns false'. Refute it at one input. -/
def treeFullWrong : ChangeSpec := { name := "treeFull", fn := fun _ => fun
  | [d1, d2] => { results := [.lit (.bool false)], args := [d1, d2] }
  | _ => none }
def TreeFullWrongFalsely : Prop := treeFullRow.holds Tryz.pinned (OpenSpec.ofChange treeFullWrong)

/-- 'headlandlaw5.TreeFlips': WHATEVER THE INPUT: true; the input reads as it did. -/
def treeFlipsSpec : ChangeSpec := { name := "treeFlips", fn := fun _ => fun
  | [d1, d2, d3] => { results := [.lit (.bool true)], args := [d1, d2, d3] }
  | _ => none }
def treeFlipsRow : OpenClaim := { program := "ytlmaolfajcgmiaagreat", sum := "791b2b95a0f7b737e0a4a88917b4b9522d197ec5ed8e7dea4a34a7d3349a8728", func := "headland/headlandlaw5.TreeFlips", spec := "treeFlips", inPlace := ["internal/bytealg.Compare", "slices.overlaps[headland/tree.item]", "slices.overlaps[headland/tree.node]"], unfollowed := true, recurses := true, apart := false }
def TreeFlipsSaid : Prop := treeFlipsRow.holds Tryz.pinned (OpenSpec.ofChange treeFlipsSpec)

/-- ITS FALSE NEIGHBOUR: 'it returns false'. Refute it at one input. -/
def treeFlipsWrong : ChangeSpec := { name := "treeFlips", fn := fun _ => fun
  | [d1, d2, d3] => { results := [.lit (.bool false)], args := [d1, d2, d3] }
  | _ => none }
def TreeFlipsWrongFalsely : Prop := treeFlipsRow.holds Tryz.pinned (OpenSpec.ofChange treeFlipsWrong)

/-- 'headlandlaw5.TreeOrders': WHATEVER THE INPUT: true; the input reads as it did. -/
def treeOrdersSpec : ChangeSpec := { name := "treeOrders", fn := fun _ => fun
  | [d1, d2] => { results := [.lit (.bool true)], args := [d1, d2] }
  | _ => none }
def treeOrdersRow : OpenClaim := { program := "ytlmaolfajcgmiaagreat", sum := "791b2b95a0f7b737e0a4a88917b4b9522d197ec5ed8e7dea4a34a7d3349a8728", func := "headland/headlandlaw5.TreeOrders", spec := "treeOrders", inPlace := ["internal/bytealg.Compare", "slices.overlaps[headland/tree.item]", "slices.overlaps[headland/tree.node]"], unfollowed := true, recurses := true, apart := false }
def TreeOrdersSaid : Prop := treeOrdersRow.holds Tryz.pinned (OpenSpec.ofChange treeOrdersSpec)

/-- ITS FALSE NEIGHBOUR: 'it returns false'. Refute it at one input. -/
def treeOrdersWrong : ChangeSpec := { name := "treeOrders", fn := fun _ => fun
  | [d1, d2] => { results := [.lit (.bool false)], args := [d1, d2] }
  | _ => none }
def TreeOrdersWrongFalsely : Prop := treeOrdersRow.holds Tryz.pinned (OpenSpec.ofChange treeOrdersWrong)

/- THE SECOND FORM. 'bulk': how many values and letters a reading holds, each counted each time it is reached (what is shared counts as often as it is met; a slice's spare places count too). A statement '..UptoSaid' is the law's where the arguments, and the package variables that the reading takes, are together of bulk at most 1048576: NARROWER than '..Said'. Prove '..Said' where nothing that the law and all that it calls make is longer than what came in: it says more and counts as full. Else prove '..UptoSaid'. A law counts once. -/
mutual
def uptoBulk {H : Type} : DataW H → Nat
  | .lit (.string bytes) => bytes.length + 1
  | .lit _ => 1
  | .nil => 1
  | .ptr d => uptoBulk d + 1
  | .slice elems spare => uptoBulkAll elems + uptoBulkAll spare + 1
  | .agg parts => uptoBulkAll parts + 1
  | .iface _ d => uptoBulk d + 1
  | .map entries => uptoBulkEntries entries + 1
  | .held _ => 1
def uptoBulkAll {H : Type} : List (DataW H) → Nat
  | [] => 0
  | d :: r => uptoBulk d + uptoBulkAll r
def uptoBulkEntries {H : Type} : List (Lit × DataW H) → Nat
  | [] => 0
  | x :: r => uptoBulkEntry x + uptoBulkEntries r
def uptoBulkEntry {H : Type} : Lit × DataW H → Nat
  | (.string bytes, d) => bytes.length + uptoBulk d + 1
  | (_, d) => uptoBulk d + 1
 end
def uptoSmall : (H : Type) → List (DataW H) → Bool := fun _ ds => decide (uptoBulkAll ds ≤ 1048576)
def OpenSpec.upto (s : _root_.Go.ChangeSpec) : _root_.Go.OpenSpec := { _root_.Go.OpenSpec.ofChange s with cond := some uptoSmall }

/-- 'headlandlaw5.TreePlays', WHERE WHAT IT READS IS OF BULK AT MOST 1048576: true; the input reads as it did. -/
def treePlaysUptoRow : OpenClaim := { program := "ytlmaolfajcgmiaagreat", sum := "791b2b95a0f7b737e0a4a88917b4b9522d197ec5ed8e7dea4a34a7d3349a8728", func := "headland/headlandlaw5.TreePlays", spec := "treePlays", inPlace := ["internal/bytealg.Compare", "slices.overlaps[headland/tree.item]", "slices.overlaps[headland/tree.node]"], unfollowed := true, recurses := true, apart := false, narrowed := true }
def TreePlaysUptoSaid : Prop := treePlaysUptoRow.holds Tryz.pinned (OpenSpec.upto treePlaysSpec)

/-- 'headlandlaw5.TreeShape', WHERE WHAT IT READS IS OF BULK AT MOST 1048576: true; the input reads as it did. -/
def treeShapeUptoRow : OpenClaim := { program := "ytlmaolfajcgmiaagreat", sum := "791b2b95a0f7b737e0a4a88917b4b9522d197ec5ed8e7dea4a34a7d3349a8728", func := "headland/headlandlaw5.TreeShape", spec := "treeShape", inPlace := ["internal/bytealg.Compare", "slices.overlaps[headland/tree.node]", "slices.overlaps[headland/tree.item]"], unfollowed := true, recurses := true, apart := false, narrowed := true }
def TreeShapeUptoSaid : Prop := treeShapeUptoRow.holds Tryz.pinned (OpenSpec.upto treeShapeSpec)

/-- 'headlandlaw5.TreeKeeps', WHERE WHAT IT READS IS OF BULK AT MOST 1048576: true; the input reads as it did. -/
def treeKeepsUptoRow : OpenClaim := { program := "ytlmaolfajcgmiaagreat", sum := "791b2b95a0f7b737e0a4a88917b4b9522d197ec5ed8e7dea4a34a7d3349a8728", func := "headland/headlandlaw5.TreeKeeps", spec := "treeKeeps", inPlace := ["internal/bytealg.Compare", "slices.overlaps[headland/tree.node]", "slices.overlaps[headland/tree.item]"], unfollowed := true, recurses := true, apart := false, narrowed := true }
def TreeKeepsUptoSaid : Prop := treeKeepsUptoRow.holds Tryz.pinned (OpenSpec.upto treeKeepsSpec)

/-- 'headlandlaw5.TreeFull', WHERE WHAT IT READS IS OF BULK AT MOST 1048576: true; the input reads as it did. -/
def treeFullUptoRow : OpenClaim := { program := "ytlmaolfajcgmiaagreat", sum := "791b2b95a0f7b737e0a4a88917b4b9522d197ec5ed8e7dea4a34a7d3349a8728", func := "headland/headlandlaw5.TreeFull", spec := "treeFull", inPlace := ["internal/bytealg.Compare", "slices.overlaps[headland/tree.item]", "slices.overlaps[headland/tree.node]"], unfollowed := true, recurses := true, apart := false, narrowed := true }
def TreeFullUptoSaid : Prop := treeFullUptoRow.holds Tryz.pinned (OpenSpec.upto treeFullSpec)

/-- 'headlandlaw5.TreeFlips', WHERE WHAT IT READS IS OF BULK AT MOST 1048576: true; the input reads as it did. -/
def treeFlipsUptoRow : OpenClaim := { program := "ytlmaolfajcgmiaagreat", sum := "791b2b95a0f7b737e0a4a88917b4b9522d197ec5ed8e7dea4a34a7d3349a8728", func := "headland/headlandlaw5.TreeFlips", spec := "treeFlips", inPlace := ["internal/bytealg.Compare", "slices.overlaps[headland/tree.item]", "slices.overlaps[headland/tree.node]"], unfollowed := true, recurses := true, apart := false, narrowed := true }
def TreeFlipsUptoSaid : Prop := treeFlipsUptoRow.holds Tryz.pinned (OpenSpec.upto treeFlipsSpec)

/-- 'headlandlaw5.TreeOrders', WHERE WHAT IT READS IS OF BULK AT MOST 1048576: true; the input reads as it did. -/
def treeOrdersUptoRow : OpenClaim := { program := "ytlmaolfajcgmiaagreat", sum := "791b2b95a0f7b737e0a4a88917b4b9522d197ec5ed8e7dea4a34a7d3349a8728", func := "headland/headlandlaw5.TreeOrders", spec := "treeOrders", inPlace := ["internal/bytealg.Compare", "slices.overlaps[headland/tree.item]", "slices.overlaps[headland/tree.node]"], unfollowed := true, recurses := true, apart := false, narrowed := true }
def TreeOrdersUptoSaid : Prop := treeOrdersUptoRow.holds Tryz.pinned (OpenSpec.upto treeOrdersSpec)

end Rows
end Go.Proofs.YtlmaolfajcgmiaaGreat
