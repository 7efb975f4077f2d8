/-
  DERIVED. GIVEN WITH THE SEED: THE CARDS: each row of YtkfmfdnfjeofiabDoorRows.lean that lists a variable, with what it lists TIED to the program's text (the seventh form; the later family's looks); each row that meets fmt, with fmt's text TOLD by the authors' own Lean function (tested against real Go, not proved from fmt's source: count such statements apart). THE CARD IS WHAT COUNTS. Prove the row's statement (the work); the ties are given (YtkfmfdnfjeofiabDoorTie.lean); close each card by the builder's one call (the guide's Derived/Test/ToyasCard.lean, 'card_holds'). Laid BY PROGRAM, IN A SANDBOX (cutbox-door.mjs). By AI agents, Wed Nov 11 2026. No macro, syntax, notation, axiom, sorry.
-/
import Derived.Test.YtkfmfdnfjeofiabDoorRows
import GoSem.ClaimSeven
namespace Go.Proofs.YtkfmfdnfjeofiabDoor
namespace Rows

/-- THE TIED CARD OF 'tocsinlaw16.DigestMacs'. -/
def digestMacsCard : Claim7 := { stood := { row := digestMacsRow, standIns := [], harness := (true, "37df8b46ecb432ab7dd2a922f44c54d34b173bd92675a85b310a5c726dd3f32c"), looks := false }, kinds := [], alts := [], laidByText := true, laidKinds := [.data, .data], laidTests := true, laidLooks := .later }
def DigestMacsCardSaid : Prop := Claim7.holds Tryd.pinned (.plain (OpenSpec.ofChange digestMacsSpec)) digestMacsCard

/-- THE SECOND FORM's CARD OF 'tocsinlaw16.DigestMacs'. -/
def digestMacsUptoCard : Claim7 := { stood := { row := digestMacsUptoRow, standIns := [], harness := (true, "37df8b46ecb432ab7dd2a922f44c54d34b173bd92675a85b310a5c726dd3f32c"), looks := false }, kinds := [], alts := [], laidByText := true, laidKinds := [.data, .data], laidTests := true, laidLooks := .later }
def DigestMacsUptoCardSaid : Prop := Claim7.holds Tryd.pinned (.plain (OpenSpec.upto digestMacsSpec)) digestMacsUptoCard
end Rows
end Go.Proofs.YtkfmfdnfjeofiabDoor
