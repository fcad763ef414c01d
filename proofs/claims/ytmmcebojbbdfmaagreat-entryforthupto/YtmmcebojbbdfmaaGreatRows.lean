/-
  No cell of these rows narrows 'for every input' (looked for: loops, veiled, ifaces, maps, wideKeys, modest, calm, conditions, laid).
  DERIVED. THE GIVEN ROWS OF THIS SEAT. 3 by the template 'for every input the law returns true; each argument reads behind the call as it read before'; 0 by the template 'total and deterministic' (their statements: YtmmcebojbbdfmaaGreatTotals.lean).
  GIVEN WITH THE SEED: the statements are not yours to turn. If you find one false, say at which input.
  Laid BY PROGRAM, IN A SANDBOX (cutbox-rows.mjs): the forced cells as the released guide's own fill.sh prints them over the translation 406606476fc01969… (all of the seat's roots in one cut). By AI agents, Wed Nov 11 2026. No macro, syntax, notation, axiom, sorry.
-/
import Derived.Test.YtmmcebojbbdfmaaGreatChecked
import GoSem.Claim
import GoSem.ClaimJoined
import GoSem.ClaimMapViews
import Derived.JoinedTies
import Derived.KernelRfl
namespace Go.Proofs.YtmmcebojbbdfmaaGreat
/- THE CELL 'sum', in the pinned program and in every row, IS THE sha256 OF THE DUMP (.gsa) THAT YtmmcebojbbdfmaaGreatProg.lean LOADS. Nothing in Lean hashes anything: it is a label: what it is worth is what the hold of that sum in a sandbox is worth. -/
noncomputable def Tryz.pinned : Pinned := { name := "ytmmcebojbbdfmaagreat", sum := "406606476fc01969b42121413baddcd7ce5a7797ff30638ab2b634c1cb8b7107", checked := Tryz.checked }
namespace Rows
def none {H : Type} : Left H := { results := [], args := [] }

/-- 'headlandlaw17.EntryBytes': WHATEVER THE INPUT: true; the input reads as it did. -/
def entryBytesSpec : ChangeSpec := { name := "entryBytes", fn := fun _ => fun
  | [d1, d2] => { results := [.lit (.bool true)], args := [d1, d2] }
  | _ => none }
def entryBytesRow : OpenClaim := { program := "ytmmcebojbbdfmaagreat", sum := "406606476fc01969b42121413baddcd7ce5a7797ff30638ab2b634c1cb8b7107", func := "headland/headlandlaw17.EntryBytes", spec := "entryBytes", unfollowed := true, recurses := true, apart := false }
def EntryBytesSaid : Prop := entryBytesRow.holds Tryz.pinned (OpenSpec.ofChange entryBytesSpec)

/-- ITS FALSE NEIGHBOUR: 'it returns false'. Refute it at one input. -/
def entryBytesWrong : ChangeSpec := { name := "entryBytes", fn := fun _ => fun
  | [d1, d2] => { results := [.lit (.bool false)], args := [d1, d2] }
  | _ => none }
def EntryBytesWrongFalsely : Prop := entryBytesRow.holds Tryz.pinned (OpenSpec.ofChange entryBytesWrong)

/-- 'headlandlaw17.EntryReplies': WHATEVER THE INPUT: true; the input reads as it did. -/
def entryRepliesSpec : ChangeSpec := { name := "entryReplies", fn := fun _ => fun
  | [d] => { results := [.lit (.bool true)], args := [d] }
  | _ => none }
def entryRepliesRow : OpenClaim := { program := "ytmmcebojbbdfmaagreat", sum := "406606476fc01969b42121413baddcd7ce5a7797ff30638ab2b634c1cb8b7107", func := "headland/headlandlaw17.EntryReplies", spec := "entryReplies", unfollowed := true, recurses := true, apart := false }
def EntryRepliesSaid : Prop := entryRepliesRow.holds Tryz.pinned (OpenSpec.ofChange entryRepliesSpec)

/-- ITS FALSE NEIGHBOUR: 'it returns false'. Refute it at one input. -/
def entryRepliesWrong : ChangeSpec := { name := "entryReplies", fn := fun _ => fun
  | [d] => { results := [.lit (.bool false)], args := [d] }
  | _ => none }
def EntryRepliesWrongFalsely : Prop := entryRepliesRow.holds Tryz.pinned (OpenSpec.ofChange entryRepliesWrong)

/-- 'headlandlaw17.EntryForth': WHATEVER THE INPUT: true; the input reads as it did. -/
def entryForthSpec : ChangeSpec := { name := "entryForth", fn := fun _ => fun
  | [d1, d2, d3, d4] => { results := [.lit (.bool true)], args := [d1, d2, d3, d4] }
  | _ => none }
def entryForthRow : OpenClaim := { program := "ytmmcebojbbdfmaagreat", sum := "406606476fc01969b42121413baddcd7ce5a7797ff30638ab2b634c1cb8b7107", func := "headland/headlandlaw17.EntryForth", spec := "entryForth", unfollowed := true, recurses := true, apart := false }
def EntryForthSaid : Prop := entryForthRow.holds Tryz.pinned (OpenSpec.ofChange entryForthSpec)

/-- ITS FALSE NEIGHBOUR: 'it returns false'. Refute it at one input. -/
def entryForthWrong : ChangeSpec := { name := "entryForth", fn := fun _ => fun
  | [d1, d2, d3, d4] => { results := [.lit (.bool false)], args := [d1, d2, d3, d4] }
  | _ => none }
def EntryForthWrongFalsely : Prop := entryForthRow.holds Tryz.pinned (OpenSpec.ofChange entryForthWrong)

/- THE SECOND FORM. 'bulk': how many values and letters a reading holds, each counted each time it is reached (what is shared counts as often as it is met; a slice's spare places count too). A statement '..UptoSaid' is the law's where the arguments, and the package variables that the reading takes, are together of bulk at most 1048576: NARROWER than '..Said'. Prove '..Said' where nothing that the law and all that it calls make is longer than what came in: it says more and counts as full. Else prove '..UptoSaid'. A law counts once. -/
mutual
def uptoBulk {H : Type} : DataW H → Nat
  | .lit (.string bytes) => bytes.length + 1
  | .lit _ => 1
  | .nil => 1
  | .ptr d => uptoBulk d + 1
  | .slice elems spare => uptoBulkAll elems + uptoBulkAll spare + 1
  | .agg parts => uptoBulkAll parts + 1
  | .iface _ d => uptoBulk d + 1
  | .map entries => uptoBulkEntries entries + 1
  | .held _ => 1
def uptoBulkAll {H : Type} : List (DataW H) → Nat
  | [] => 0
  | d :: r => uptoBulk d + uptoBulkAll r
def uptoBulkEntries {H : Type} : List (Lit × DataW H) → Nat
  | [] => 0
  | x :: r => uptoBulkEntry x + uptoBulkEntries r
def uptoBulkEntry {H : Type} : Lit × DataW H → Nat
  | (.string bytes, d) => bytes.length + uptoBulk d + 1
  | (_, d) => uptoBulk d + 1
 end
def uptoSmall : (H : Type) → List (DataW H) → Bool := fun _ ds => decide (uptoBulkAll ds ≤ 1048576)
def OpenSpec.upto (s : _root_.Go.ChangeSpec) : _root_.Go.OpenSpec := { _root_.Go.OpenSpec.ofChange s with cond := some uptoSmall }

/-- 'headlandlaw17.EntryBytes', WHERE WHAT IT READS IS OF BULK AT MOST 1048576: true; the input reads as it did. -/
def entryBytesUptoRow : OpenClaim := { program := "ytmmcebojbbdfmaagreat", sum := "406606476fc01969b42121413baddcd7ce5a7797ff30638ab2b634c1cb8b7107", func := "headland/headlandlaw17.EntryBytes", spec := "entryBytes", unfollowed := true, recurses := true, apart := false, narrowed := true }
def EntryBytesUptoSaid : Prop := entryBytesUptoRow.holds Tryz.pinned (OpenSpec.upto entryBytesSpec)

/-- 'headlandlaw17.EntryReplies', WHERE WHAT IT READS IS OF BULK AT MOST 1048576: true; the input reads as it did. -/
def entryRepliesUptoRow : OpenClaim := { program := "ytmmcebojbbdfmaagreat", sum := "406606476fc01969b42121413baddcd7ce5a7797ff30638ab2b634c1cb8b7107", func := "headland/headlandlaw17.EntryReplies", spec := "entryReplies", unfollowed := true, recurses := true, apart := false, narrowed := true }
def EntryRepliesUptoSaid : Prop := entryRepliesUptoRow.holds Tryz.pinned (OpenSpec.upto entryRepliesSpec)

/-- 'headlandlaw17.EntryForth', WHERE WHAT IT READS IS OF BULK AT MOST 1048576: true; the input reads as it did. -/
def entryForthUptoRow : OpenClaim := { program := "ytmmcebojbbdfmaagreat", sum := "406606476fc01969b42121413baddcd7ce5a7797ff30638ab2b634c1cb8b7107", func := "headland/headlandlaw17.EntryForth", spec := "entryForth", unfollowed := true, recurses := true, apart := false, narrowed := true }
def EntryForthUptoSaid : Prop := entryForthUptoRow.holds Tryz.pinned (OpenSpec.upto entryForthSpec)

end Rows
end Go.Proofs.YtmmcebojbbdfmaaGreat
