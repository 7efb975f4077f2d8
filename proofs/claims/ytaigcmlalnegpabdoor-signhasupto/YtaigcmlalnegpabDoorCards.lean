/-
  DERIVED. GIVEN WITH THE SEED: THE CARDS: each row of YtaigcmlalnegpabDoorRows.lean that lists a variable, with what it lists TIED to the program's text (the seventh form; the later family's looks); each row that meets fmt, with fmt's text TOLD by the authors' own Lean function (tested against real Go, not proved from fmt's source: count such statements apart). THE CARD IS WHAT COUNTS. Prove the row's statement (the work); the ties are given (YtaigcmlalnegpabDoorTie.lean); close each card by the builder's one call (the guide's Derived/Test/ToyasCard.lean, 'card_holds'). Laid BY PROGRAM, IN A SANDBOX (cutbox-door.mjs). By AI agents, Wed Nov 11 2026. No macro, syntax, notation, axiom, sorry.
-/
import Derived.Test.YtaigcmlalnegpabDoorRows
import GoSem.ClaimSeven
namespace Go.Proofs.YtaigcmlalnegpabDoor
namespace Rows

/-- THE TIED CARD OF 'tocsinlaw01.SignFolds'. -/
def signFoldsCard : Claim7 := { stood := { row := signFoldsRow, standIns := [], harness := (true, "c0e6e0e45850b05cc56f145bb3eef2439e808cbf7246076fada0db0824c58c5d"), looks := true }, kinds := [], alts := [], laidByText := true, laidKinds := [.data, .data, .pinned], laidTests := true, laidLooks := .later }
def SignFoldsCardSaid : Prop := Claim7.holds Tryd.pinned (.plain (OpenSpec.ofChange signFoldsSpec)) signFoldsCard

/-- THE TIED CARD OF 'tocsinlaw01.SignHas'. -/
def signHasCard : Claim7 := { stood := { row := signHasRow, standIns := [], harness := (true, "c0e6e0e45850b05cc56f145bb3eef2439e808cbf7246076fada0db0824c58c5d"), looks := true }, kinds := [], alts := [], laidByText := true, laidKinds := [.data, .data, .pinned], laidTests := true, laidLooks := .later }
def SignHasCardSaid : Prop := Claim7.holds Tryd.pinned (.plain (OpenSpec.ofChange signHasSpec)) signHasCard

/-- THE TIED CARD OF 'tocsintop.TopNames'. -/
def topNamesCard : Claim7 := { stood := { row := topNamesRow, standIns := [], harness := (true, "c0e6e0e45850b05cc56f145bb3eef2439e808cbf7246076fada0db0824c58c5d"), looks := true }, kinds := [], alts := [], laidByText := true, laidKinds := [.data, .data, .data], laidTests := true, laidLooks := .later }
def TopNamesCardSaid : Prop := Claim7.holds Tryd.pinned (.plain (OpenSpec.ofChange topNamesSpec)) topNamesCard

/-- THE SECOND FORM's CARD OF 'tocsinlaw01.SignFolds'. -/
def signFoldsUptoCard : Claim7 := { stood := { row := signFoldsUptoRow, standIns := [], harness := (true, "c0e6e0e45850b05cc56f145bb3eef2439e808cbf7246076fada0db0824c58c5d"), looks := true }, kinds := [], alts := [], laidByText := true, laidKinds := [.data, .data, .pinned], laidTests := true, laidLooks := .later }
def SignFoldsUptoCardSaid : Prop := Claim7.holds Tryd.pinned (.plain (OpenSpec.upto signFoldsSpec)) signFoldsUptoCard

/-- THE SECOND FORM's CARD OF 'tocsinlaw01.SignHas'. -/
def signHasUptoCard : Claim7 := { stood := { row := signHasUptoRow, standIns := [], harness := (true, "c0e6e0e45850b05cc56f145bb3eef2439e808cbf7246076fada0db0824c58c5d"), looks := true }, kinds := [], alts := [], laidByText := true, laidKinds := [.data, .data, .pinned], laidTests := true, laidLooks := .later }
def SignHasUptoCardSaid : Prop := Claim7.holds Tryd.pinned (.plain (OpenSpec.upto signHasSpec)) signHasUptoCard

/-- THE SECOND FORM's CARD OF 'tocsintop.TopNames'. -/
def topNamesUptoCard : Claim7 := { stood := { row := topNamesUptoRow, standIns := [], harness := (true, "c0e6e0e45850b05cc56f145bb3eef2439e808cbf7246076fada0db0824c58c5d"), looks := true }, kinds := [], alts := [], laidByText := true, laidKinds := [.data, .data, .data], laidTests := true, laidLooks := .later }
def TopNamesUptoCardSaid : Prop := Claim7.holds Tryd.pinned (.plain (OpenSpec.upto topNamesSpec)) topNamesUptoCard
end Rows
end Go.Proofs.YtaigcmlalnegpabDoor
