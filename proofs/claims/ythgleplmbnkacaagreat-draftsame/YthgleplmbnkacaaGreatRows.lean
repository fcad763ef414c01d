/-
  No cell of these rows narrows 'for every input' (looked for: loops, veiled, ifaces, maps, wideKeys, modest, calm, conditions, laid).
  DERIVED. THE GIVEN ROWS OF THIS SEAT. 3 by the template 'for every input the law returns true; each argument reads behind the call as it read before'; 0 by the template 'total and deterministic' (their statements: YthgleplmbnkacaaGreatTotals.lean).
  GIVEN WITH THE SEED: the statements are not yours to turn. If you find one false, say at which input.
  Laid BY PROGRAM, IN A SANDBOX (cutbox-rows.mjs): the forced cells as the released guide's own fill.sh prints them over the translation a9ee4ee28bb4adbb… (all of the seat's roots in one cut). By AI agents, Wed Nov 11 2026. No macro, syntax, notation, axiom, sorry.
-/
import Derived.Test.YthgleplmbnkacaaGreatChecked
import GoSem.Claim
import GoSem.ClaimJoined
import GoSem.ClaimMapViews
import Derived.JoinedTies
import Derived.KernelRfl
namespace Go.Proofs.YthgleplmbnkacaaGreat
/- THE CELL 'sum', in the pinned program and in every row, IS THE sha256 OF THE DUMP (.gsa) THAT YthgleplmbnkacaaGreatProg.lean LOADS. Nothing in Lean hashes anything: it is a label: what it is worth is what the hold of that sum in a sandbox is worth. -/
noncomputable def Tryz.pinned : Pinned := { name := "ythgleplmbnkacaagreat", sum := "a9ee4ee28bb4adbbf984cf97e20cfc55fe1e43439d03ae790458398ffe10ca7d", checked := Tryz.checked }
namespace Rows
def none {H : Type} : Left H := { results := [], args := [] }

/-- 'headlandlaw13.DraftPlays': WHATEVER THE INPUT: true; the input reads as it did. -/
def draftPlaysSpec : ChangeSpec := { name := "draftPlays", fn := fun _ => fun
  | [d1, d2] => { results := [.lit (.bool true)], args := [d1, d2] }
  | _ => none }
def draftPlaysRow : OpenClaim := { program := "ythgleplmbnkacaagreat", sum := "a9ee4ee28bb4adbbf984cf97e20cfc55fe1e43439d03ae790458398ffe10ca7d", func := "headland/headlandlaw13.DraftPlays", spec := "draftPlays", inPlace := ["internal/bytealg.Compare", "slices.overlaps[headland/tree.item]", "slices.overlaps[headland/tree.node]"], unfollowed := true, recurses := true, apart := false }
def DraftPlaysSaid : Prop := draftPlaysRow.holds Tryz.pinned (OpenSpec.ofChange draftPlaysSpec)

/-- ITS FALSE NEIGHBOUR: 'it returns false'. Refute it at one input. -/
def draftPlaysWrong : ChangeSpec := { name := "draftPlays", fn := fun _ => fun
  | [d1, d2] => { results := [.lit (.bool false)], args := [d1, d2] }
  | _ => none }
def DraftPlaysWrongFalsely : Prop := draftPlaysRow.holds Tryz.pinned (OpenSpec.ofChange draftPlaysWrong)

/-- 'headlandlaw13.DraftBack': WHATEVER THE INPUT: true; the input reads as it did. -/
def draftBackSpec : ChangeSpec := { name := "draftBack", fn := fun _ => fun
  | [d1, d2] => { results := [.lit (.bool true)], args := [d1, d2] }
  | _ => none }
def draftBackRow : OpenClaim := { program := "ythgleplmbnkacaagreat", sum := "a9ee4ee28bb4adbbf984cf97e20cfc55fe1e43439d03ae790458398ffe10ca7d", func := "headland/headlandlaw13.DraftBack", spec := "draftBack", inPlace := ["internal/bytealg.Compare"], unfollowed := true, recurses := true, apart := false }
def DraftBackSaid : Prop := draftBackRow.holds Tryz.pinned (OpenSpec.ofChange draftBackSpec)

/-- ITS FALSE NEIGHBOUR: 'it returns false'. Refute it at one input. -/
def draftBackWrong : ChangeSpec := { name := "draftBack", fn := fun _ => fun
  | [d1, d2] => { results := [.lit (.bool false)], args := [d1, d2] }
  | _ => none }
def DraftBackWrongFalsely : Prop := draftBackRow.holds Tryz.pinned (OpenSpec.ofChange draftBackWrong)

/-- 'headlandlaw13.DraftSame': WHATEVER THE INPUT: true; the input reads as it did. -/
def draftSameSpec : ChangeSpec := { name := "draftSame", fn := fun _ => fun
  | [d] => { results := [.lit (.bool true)], args := [d] }
  | _ => none }
def draftSameRow : OpenClaim := { program := "ythgleplmbnkacaagreat", sum := "a9ee4ee28bb4adbbf984cf97e20cfc55fe1e43439d03ae790458398ffe10ca7d", func := "headland/headlandlaw13.DraftSame", spec := "draftSame", inPlace := ["internal/bytealg.Compare"], unfollowed := true, recurses := true, apart := false }
def DraftSameSaid : Prop := draftSameRow.holds Tryz.pinned (OpenSpec.ofChange draftSameSpec)

/-- ITS FALSE NEIGHBOUR: 'it returns false'. Refute it at one input. -/
def draftSameWrong : ChangeSpec := { name := "draftSame", fn := fun _ => fun
  | [d] => { results := [.lit (.bool false)], args := [d] }
  | _ => none }
def DraftSameWrongFalsely : Prop := draftSameRow.holds Tryz.pinned (OpenSpec.ofChange draftSameWrong)

/- THE SECOND FORM. 'bulk': how many values and letters a reading holds, each counted each time it is reached (what is shared counts as often as it is met; a slice's spare places count too). A statement '..UptoSaid' is the law's where the arguments, and the package variables that the reading takes, are together of bulk at most 1048576: NARROWER than '..Said'. Prove '..Said' where nothing that the law and all that it calls make is longer than what came in: it says more and counts as full. Else prove '..UptoSaid'. A law counts once. -/
mutual
def uptoBulk {H : Type} : DataW H → Nat
  | .lit (.string bytes) => bytes.length + 1
  | .lit _ => 1
  | .nil => 1
  | .ptr d => uptoBulk d + 1
  | .slice elems spare => uptoBulkAll elems + uptoBulkAll spare + 1
  | .agg parts => uptoBulkAll parts + 1
  | .iface _ d => uptoBulk d + 1
  | .map entries => uptoBulkEntries entries + 1
  | .held _ => 1
def uptoBulkAll {H : Type} : List (DataW H) → Nat
  | [] => 0
  | d :: r => uptoBulk d + uptoBulkAll r
def uptoBulkEntries {H : Type} : List (Lit × DataW H) → Nat
  | [] => 0
  | x :: r => uptoBulkEntry x + uptoBulkEntries r
def uptoBulkEntry {H : Type} : Lit × DataW H → Nat
  | (.string bytes, d) => bytes.length + uptoBulk d + 1
  | (_, d) => uptoBulk d + 1
 end
def uptoSmall : (H : Type) → List (DataW H) → Bool := fun _ ds => decide (uptoBulkAll ds ≤ 1048576)
def OpenSpec.upto (s : _root_.Go.ChangeSpec) : _root_.Go.OpenSpec := { _root_.Go.OpenSpec.ofChange s with cond := some uptoSmall }

/-- 'headlandlaw13.DraftPlays', WHERE WHAT IT READS IS OF BULK AT MOST 1048576: true; the input reads as it did. -/
def draftPlaysUptoRow : OpenClaim := { program := "ythgleplmbnkacaagreat", sum := "a9ee4ee28bb4adbbf984cf97e20cfc55fe1e43439d03ae790458398ffe10ca7d", func := "headland/headlandlaw13.DraftPlays", spec := "draftPlays", inPlace := ["internal/bytealg.Compare", "slices.overlaps[headland/tree.item]", "slices.overlaps[headland/tree.node]"], unfollowed := true, recurses := true, apart := false, narrowed := true }
def DraftPlaysUptoSaid : Prop := draftPlaysUptoRow.holds Tryz.pinned (OpenSpec.upto draftPlaysSpec)

/-- 'headlandlaw13.DraftBack', WHERE WHAT IT READS IS OF BULK AT MOST 1048576: true; the input reads as it did. -/
def draftBackUptoRow : OpenClaim := { program := "ythgleplmbnkacaagreat", sum := "a9ee4ee28bb4adbbf984cf97e20cfc55fe1e43439d03ae790458398ffe10ca7d", func := "headland/headlandlaw13.DraftBack", spec := "draftBack", inPlace := ["internal/bytealg.Compare"], unfollowed := true, recurses := true, apart := false, narrowed := true }
def DraftBackUptoSaid : Prop := draftBackUptoRow.holds Tryz.pinned (OpenSpec.upto draftBackSpec)

/-- 'headlandlaw13.DraftSame', WHERE WHAT IT READS IS OF BULK AT MOST 1048576: true; the input reads as it did. -/
def draftSameUptoRow : OpenClaim := { program := "ythgleplmbnkacaagreat", sum := "a9ee4ee28bb4adbbf984cf97e20cfc55fe1e43439d03ae790458398ffe10ca7d", func := "headland/headlandlaw13.DraftSame", spec := "draftSame", inPlace := ["internal/bytealg.Compare"], unfollowed := true, recurses := true, apart := false, narrowed := true }
def DraftSameUptoSaid : Prop := draftSameUptoRow.holds Tryz.pinned (OpenSpec.upto draftSameSpec)

end Rows
end Go.Proofs.YthgleplmbnkacaaGreat
