/-
  No cell of these rows narrows 'for every input' (looked for: loops, veiled, ifaces, maps, wideKeys, modest, calm, conditions, laid).
  DERIVED. THE GIVEN ROWS OF THIS SEAT. 2 by the template 'for every input the law returns true; each argument reads behind the call as it read before'; 0 by the template 'total and deterministic' (their statements: YtdfjjhlhnfindaaGreatTotals.lean).
  GIVEN WITH THE SEED: the statements are not yours to turn. If you find one false, say at which input.
  Laid BY PROGRAM, IN A SANDBOX (cutbox-rows.mjs): the forced cells as the released guide's own fill.sh prints them over the translation c830e5999ca7b52a… (all of the seat's roots in one cut). By AI agents, Wed Nov 11 2026. No macro, syntax, notation, axiom, sorry.
-/
import Derived.Test.YtdfjjhlhnfindaaGreatChecked
import GoSem.Claim
import GoSem.ClaimJoined
import GoSem.ClaimMapViews
import Derived.JoinedTies
import Derived.KernelRfl
namespace Go.Proofs.YtdfjjhlhnfindaaGreat
/- THE CELL 'sum', in the pinned program and in every row, IS THE sha256 OF THE DUMP (.gsa) THAT YtdfjjhlhnfindaaGreatProg.lean LOADS. Nothing in Lean hashes anything: it is a label: what it is worth is what the hold of that sum in a sandbox is worth. -/
noncomputable def Tryz.pinned : Pinned := { name := "ytdfjjhlhnfindaagreat", sum := "c830e5999ca7b52a55a6d9b611b193c232d6c65d8d49d7f14418ba33800e6bfd", checked := Tryz.checked }
namespace Rows
def none {H : Type} : Left H := { results := [], args := [] }

/-- 'headlandlaw11.MetaAdopts': WHATEVER THE INPUT: true; the input reads as it did. -/
def metaAdoptsSpec : ChangeSpec := { name := "metaAdopts", fn := fun _ => fun
  | [d1, d2, d3] => { results := [.lit (.bool true)], args := [d1, d2, d3] }
  | _ => none }
def metaAdoptsRow : OpenClaim := { program := "ytdfjjhlhnfindaagreat", sum := "c830e5999ca7b52a55a6d9b611b193c232d6c65d8d49d7f14418ba33800e6bfd", func := "headland/headlandlaw11.MetaAdopts", spec := "metaAdopts", inPlace := ["internal/bytealg.Compare", "slices.overlaps[headland/tree.item]", "slices.overlaps[headland/tree.node]"], unfollowed := true, recurses := true, apart := false }
def MetaAdoptsSaid : Prop := metaAdoptsRow.holds Tryz.pinned (OpenSpec.ofChange metaAdoptsSpec)

/-- ITS FALSE NEIGHBOUR: 'it returns false'. Refute it at one input. -/
def metaAdoptsWrong : ChangeSpec := { name := "metaAdopts", fn := fun _ => fun
  | [d1, d2, d3] => { results := [.lit (.bool false)], args := [d1, d2, d3] }
  | _ => none }
def MetaAdoptsWrongFalsely : Prop := metaAdoptsRow.holds Tryz.pinned (OpenSpec.ofChange metaAdoptsWrong)

/-- 'headlandlaw11.MetaLearns': WHATEVER THE INPUT: true; the input reads as it did. -/
def metaLearnsSpec : ChangeSpec := { name := "metaLearns", fn := fun _ => fun
  | [d1, d2, d3] => { results := [.lit (.bool true)], args := [d1, d2, d3] }
  | _ => none }
def metaLearnsRow : OpenClaim := { program := "ytdfjjhlhnfindaagreat", sum := "c830e5999ca7b52a55a6d9b611b193c232d6c65d8d49d7f14418ba33800e6bfd", func := "headland/headlandlaw11.MetaLearns", spec := "metaLearns", inPlace := ["internal/bytealg.Compare", "slices.overlaps[headland/tree.item]", "slices.overlaps[headland/tree.node]"], unfollowed := true, recurses := true, apart := false }
def MetaLearnsSaid : Prop := metaLearnsRow.holds Tryz.pinned (OpenSpec.ofChange metaLearnsSpec)

/-- ITS FALSE NEIGHBOUR: 'it returns false'. Refute it at one input. -/
def metaLearnsWrong : ChangeSpec := { name := "metaLearns", fn := fun _ => fun
  | [d1, d2, d3] => { results := [.lit (.bool false)], args := [d1, d2, d3] }
  | _ => none }
def MetaLearnsWrongFalsely : Prop := metaLearnsRow.holds Tryz.pinned (OpenSpec.ofChange metaLearnsWrong)

/- THE SECOND FORM. 'bulk': how many values and letters a reading holds, each counted each time it is reached (what is shared counts as often as it is met; a slice's spare places count too). A statement '..UptoSaid' is the law's where the arguments, and the package variables that the reading takes, are together of bulk at most 1048576: NARROWER than '..Said'. Prove '..Said' where nothing that the law and all that it calls make is longer than what came in: it says more and counts as full. Else prove '..UptoSaid'. A law counts once. -/
mutual
def uptoBulk {H : Type} : DataW H → Nat
  | .lit (.string bytes) => bytes.length + 1
  | .lit _ => 1
  | .nil => 1
  | .ptr d => uptoBulk d + 1
  | .slice elems spare => uptoBulkAll elems + uptoBulkAll spare + 1
  | .agg parts => uptoBulkAll parts + 1
  | .iface _ d => uptoBulk d + 1
  | .map entries => uptoBulkEntries entries + 1
  | .held _ => 1
def uptoBulkAll {H : Type} : List (DataW H) → Nat
  | [] => 0
  | d :: r => uptoBulk d + uptoBulkAll r
def uptoBulkEntries {H : Type} : List (Lit × DataW H) → Nat
  | [] => 0
  | x :: r => uptoBulkEntry x + uptoBulkEntries r
def uptoBulkEntry {H : Type} : Lit × DataW H → Nat
  | (.string bytes, d) => bytes.length + uptoBulk d + 1
  | (_, d) => uptoBulk d + 1
 end
def uptoSmall : (H : Type) → List (DataW H) → Bool := fun _ ds => decide (uptoBulkAll ds ≤ 1048576)
def OpenSpec.upto (s : _root_.Go.ChangeSpec) : _root_.Go.OpenSpec := { _root_.Go.OpenSpec.ofChange s with cond := some uptoSmall }

/-- 'headlandlaw11.MetaAdopts', WHERE WHAT IT READS IS OF BULK AT MOST 1048576: true; the input reads as it did. -/
def metaAdoptsUptoRow : OpenClaim := { program := "ytdfjjhlhnfindaagreat", sum := "c830e5999ca7b52a55a6d9b611b193c232d6c65d8d49d7f14418ba33800e6bfd", func := "headland/headlandlaw11.MetaAdopts", spec := "metaAdopts", inPlace := ["internal/bytealg.Compare", "slices.overlaps[headland/tree.item]", "slices.overlaps[headland/tree.node]"], unfollowed := true, recurses := true, apart := false, narrowed := true }
def MetaAdoptsUptoSaid : Prop := metaAdoptsUptoRow.holds Tryz.pinned (OpenSpec.upto metaAdoptsSpec)

/-- 'headlandlaw11.MetaLearns', WHERE WHAT IT READS IS OF BULK AT MOST 1048576: true; the input reads as it did. -/
def metaLearnsUptoRow : OpenClaim := { program := "ytdfjjhlhnfindaagreat", sum := "c830e5999ca7b52a55a6d9b611b193c232d6c65d8d49d7f14418ba33800e6bfd", func := "headland/headlandlaw11.MetaLearns", spec := "metaLearns", inPlace := ["internal/bytealg.Compare", "slices.overlaps[headland/tree.item]", "slices.overlaps[headland/tree.node]"], unfollowed := true, recurses := true, apart := false, narrowed := true }
def MetaLearnsUptoSaid : Prop := metaLearnsUptoRow.holds Tryz.pinned (OpenSpec.upto metaLearnsSpec)

end Rows
end Go.Proofs.YtdfjjhlhnfindaaGreat
