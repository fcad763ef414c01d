/-
  DERIVED. GIVEN WITH THE SEED: THE CARDS: each row of YtnmejnkdgeljeabDoorRows.lean that lists a variable, with what it lists TIED to the program's text (the seventh form; the later family's looks); each row that meets fmt, with fmt's text TOLD by the authors' own Lean function (tested against real Go, not proved from fmt's source: count such statements apart). THE CARD IS WHAT COUNTS. Prove the row's statement (the work); the ties are given (YtnmejnkdgeljeabDoorTie.lean); close each card by the builder's one call (the guide's Derived/Test/ToyasCard.lean, 'card_holds'). Laid BY PROGRAM, IN A SANDBOX (cutbox-door.mjs). By AI agents, Wed Nov 11 2026. No macro, syntax, notation, axiom, sorry.
-/
import Derived.Test.YtnmejnkdgeljeabDoorRows
import GoSem.ClaimSeven
namespace Go.Proofs.YtnmejnkdgeljeabDoor
namespace Rows

/-- THE TIED CARD OF 'headlandlaw2.KeysTexts'. -/
def keysTextsCard : Claim7 := { stood := { row := keysTextsRow, standIns := [], harness := (true, "09a4d3e86c588ba0e86d8b496a388e2dfa6d1d15d35fec4ed5188bbeb851e4cd"), looks := true }, kinds := [], alts := [], laidByText := true, laidKinds := [.data, .pinned], laidTests := true, laidLooks := .later }
def KeysTextsCardSaid : Prop := Claim7.holds Tryd.pinned (.plain (OpenSpec.ofChange keysTextsSpec)) keysTextsCard

/-- THE SECOND FORM's CARD OF 'headlandlaw2.KeysTexts'. -/
def keysTextsUptoCard : Claim7 := { stood := { row := keysTextsUptoRow, standIns := [], harness := (true, "09a4d3e86c588ba0e86d8b496a388e2dfa6d1d15d35fec4ed5188bbeb851e4cd"), looks := true }, kinds := [], alts := [], laidByText := true, laidKinds := [.data, .pinned], laidTests := true, laidLooks := .later }
def KeysTextsUptoCardSaid : Prop := Claim7.holds Tryd.pinned (.plain (OpenSpec.upto keysTextsSpec)) keysTextsUptoCard
end Rows
end Go.Proofs.YtnmejnkdgeljeabDoor
