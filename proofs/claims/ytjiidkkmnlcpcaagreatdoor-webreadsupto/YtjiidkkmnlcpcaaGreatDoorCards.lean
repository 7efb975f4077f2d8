/-
  DERIVED. GIVEN WITH THE SEED: THE CARDS: each row of YtjiidkkmnlcpcaaGreatDoorRows.lean that lists a variable, with what it lists TIED to the program's text (the seventh form; the later family's looks); each row that meets fmt, with fmt's text TOLD by the authors' own Lean function (tested against real Go, not proved from fmt's source: count such statements apart). THE CARD IS WHAT COUNTS. Prove the row's statement (the work); the ties are given (YtjiidkkmnlcpcaaGreatDoorTie.lean); close each card by the builder's one call (the guide's Derived/Test/ToyasCard.lean, 'card_holds'). Laid BY PROGRAM, IN A SANDBOX (cutbox-door.mjs). By AI agents, Wed Nov 11 2026. No macro, syntax, notation, axiom, sorry.
-/
import Derived.Test.YtjiidkkmnlcpcaaGreatDoorRows
import GoSem.ClaimSeven
namespace Go.Proofs.YtjiidkkmnlcpcaaGreatDoor
namespace Rows

/-- THE TIED CARD OF 'tocsinlaw18.WebAnswers'. -/
def webAnswersCard : Claim7 := { stood := { row := webAnswersRow, standIns := [], harness := (true, "8d05ace81d5c07ee170f1ad41a591eabb3fbfda2c661c0e4352db95c05dcfe05"), looks := true }, kinds := [], alts := [], laidByText := true, laidKinds := [.data, .data, .data, .data, .pinned], laidTests := true, laidLooks := .later }
def WebAnswersCardSaid : Prop := Claim7.holds Tryz.pinned (.plain (OpenSpec.ofChange webAnswersSpec)) webAnswersCard

/-- THE TIED CARD OF 'tocsinlaw18.WebReads'. -/
def webReadsCard : Claim7 := { stood := { row := webReadsRow, standIns := [], harness := (true, "8d05ace81d5c07ee170f1ad41a591eabb3fbfda2c661c0e4352db95c05dcfe05"), looks := true }, kinds := [], alts := [], laidByText := true, laidKinds := [.data, .data, .data, .data, .pinned], laidTests := true, laidLooks := .later }
def WebReadsCardSaid : Prop := Claim7.holds Tryz.pinned (.plain (OpenSpec.ofChange webReadsSpec)) webReadsCard

/-- THE SECOND FORM's CARD OF 'tocsinlaw18.WebAnswers'. -/
def webAnswersUptoCard : Claim7 := { stood := { row := webAnswersUptoRow, standIns := [], harness := (true, "8d05ace81d5c07ee170f1ad41a591eabb3fbfda2c661c0e4352db95c05dcfe05"), looks := true }, kinds := [], alts := [], laidByText := true, laidKinds := [.data, .data, .data, .data, .pinned], laidTests := true, laidLooks := .later }
def WebAnswersUptoCardSaid : Prop := Claim7.holds Tryz.pinned (.plain (OpenSpec.upto webAnswersSpec)) webAnswersUptoCard

/-- THE SECOND FORM's CARD OF 'tocsinlaw18.WebReads'. -/
def webReadsUptoCard : Claim7 := { stood := { row := webReadsUptoRow, standIns := [], harness := (true, "8d05ace81d5c07ee170f1ad41a591eabb3fbfda2c661c0e4352db95c05dcfe05"), looks := true }, kinds := [], alts := [], laidByText := true, laidKinds := [.data, .data, .data, .data, .pinned], laidTests := true, laidLooks := .later }
def WebReadsUptoCardSaid : Prop := Claim7.holds Tryz.pinned (.plain (OpenSpec.upto webReadsSpec)) webReadsUptoCard
end Rows
end Go.Proofs.YtjiidkkmnlcpcaaGreatDoor
