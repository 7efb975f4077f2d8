/-
  DERIVED. GIVEN WITH THE SEED: THE CARDS: each row of YtejibjeidklnkaaGreatDoorRows.lean that lists a variable, with what it lists TIED to the program's text (the seventh form; the later family's looks); each row that meets fmt, with fmt's text TOLD by the authors' own Lean function (tested against real Go, not proved from fmt's source: count such statements apart). THE CARD IS WHAT COUNTS. Prove the row's statement (the work); the ties are given (YtejibjeidklnkaaGreatDoorTie.lean); close each card by the builder's one call (the guide's Derived/Test/ToyasCard.lean, 'card_holds'). Laid BY PROGRAM, IN A SANDBOX (cutbox-door.mjs). By AI agents, Wed Nov 11 2026. No macro, syntax, notation, axiom, sorry.
-/
import Derived.Test.YtejibjeidklnkaaGreatDoorRows
import GoSem.ClaimSeven
namespace Go.Proofs.YtejibjeidklnkaaGreatDoor
namespace Rows

/-- THE TIED CARD OF 'tocsinlaw02.JsonWide'. -/
def jsonWideCard : Claim7 := { stood := { row := jsonWideRow, standIns := [], harness := (true, "b8988ad5f01decf24d43a18bf1900d2ad3b707034120084a34b23f118a895a5f"), looks := true }, kinds := [], alts := [], laidByText := true, laidKinds := [.data, .data, .data, .data, .sentinel, .sentinel, .pinned], laidTests := true, laidLooks := .later }
def JsonWideCardSaid : Prop := Claim7.holds Tryz.pinned (.plain (OpenSpec.ofChange jsonWideSpec)) jsonWideCard

/-- THE TIED CARD OF 'tocsinlaw02.JsonCut'. -/
def jsonCutCard : Claim7 := { stood := { row := jsonCutRow, standIns := [], harness := (true, "b8988ad5f01decf24d43a18bf1900d2ad3b707034120084a34b23f118a895a5f"), looks := true }, kinds := [], alts := [], laidByText := true, laidKinds := [.data, .data, .data, .data, .sentinel, .sentinel, .pinned], laidTests := true, laidLooks := .later }
def JsonCutCardSaid : Prop := Claim7.holds Tryz.pinned (.plain (OpenSpec.ofChange jsonCutSpec)) jsonCutCard

/-- THE SECOND FORM's CARD OF 'tocsinlaw02.JsonWide'. -/
def jsonWideUptoCard : Claim7 := { stood := { row := jsonWideUptoRow, standIns := [], harness := (true, "b8988ad5f01decf24d43a18bf1900d2ad3b707034120084a34b23f118a895a5f"), looks := true }, kinds := [], alts := [], laidByText := true, laidKinds := [.data, .data, .data, .data, .sentinel, .sentinel, .pinned], laidTests := true, laidLooks := .later }
def JsonWideUptoCardSaid : Prop := Claim7.holds Tryz.pinned (.plain (OpenSpec.upto jsonWideSpec)) jsonWideUptoCard

/-- THE SECOND FORM's CARD OF 'tocsinlaw02.JsonCut'. -/
def jsonCutUptoCard : Claim7 := { stood := { row := jsonCutUptoRow, standIns := [], harness := (true, "b8988ad5f01decf24d43a18bf1900d2ad3b707034120084a34b23f118a895a5f"), looks := true }, kinds := [], alts := [], laidByText := true, laidKinds := [.data, .data, .data, .data, .sentinel, .sentinel, .pinned], laidTests := true, laidLooks := .later }
def JsonCutUptoCardSaid : Prop := Claim7.holds Tryz.pinned (.plain (OpenSpec.upto jsonCutSpec)) jsonCutUptoCard
end Rows
end Go.Proofs.YtejibjeidklnkaaGreatDoor
