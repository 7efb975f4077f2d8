/-
  DERIVED. GIVEN WITH THE SEED: THE CARDS: each row of YtogimcdjllhkcaaGreatDoorRows.lean that lists a variable, with what it lists TIED to the program's text (the seventh form; the later family's looks); each row that meets fmt, with fmt's text TOLD by the authors' own Lean function (tested against real Go, not proved from fmt's source: count such statements apart). THE CARD IS WHAT COUNTS. Prove the row's statement (the work); the ties are given (YtogimcdjllhkcaaGreatDoorTie.lean); close each card by the builder's one call (the guide's Derived/Test/ToyasCard.lean, 'card_holds'). Laid BY PROGRAM, IN A SANDBOX (cutbox-door.mjs). By AI agents, Wed Nov 11 2026. No macro, syntax, notation, axiom, sorry.
-/
import Derived.Test.YtogimcdjllhkcaaGreatDoorRows
import GoSem.ClaimSeven
namespace Go.Proofs.YtogimcdjllhkcaaGreatDoor
namespace Rows

/-- THE TIED CARD OF 'tocsinlaw18.WebWrites'. -/
def webWritesCard : Claim7 := { stood := { row := webWritesRow, standIns := [], harness := (true, "7b1fd7dee7b951b8f1559e9e487d9881359ea2041a8899c574d527bb859b886d"), looks := false }, kinds := [], alts := [], laidByText := true, laidKinds := [.data, .data, .data, .data, .pinned], laidTests := true, laidLooks := .later }
def WebWritesCardSaid : Prop := Claim7.holds Tryz.pinned (.plain (OpenSpec.ofChange webWritesSpec)) webWritesCard

/-- THE SECOND FORM's CARD OF 'tocsinlaw18.WebWrites'. -/
def webWritesUptoCard : Claim7 := { stood := { row := webWritesUptoRow, standIns := [], harness := (true, "7b1fd7dee7b951b8f1559e9e487d9881359ea2041a8899c574d527bb859b886d"), looks := false }, kinds := [], alts := [], laidByText := true, laidKinds := [.data, .data, .data, .data, .pinned], laidTests := true, laidLooks := .later }
def WebWritesUptoCardSaid : Prop := Claim7.holds Tryz.pinned (.plain (OpenSpec.upto webWritesSpec)) webWritesUptoCard
end Rows
end Go.Proofs.YtogimcdjllhkcaaGreatDoor
