/-
  DERIVED. GIVEN WITH THE SEED: THE CARDS: each row of YtdhgpkacilcfgaaGreatDoorRows.lean that lists a variable, with what it lists TIED to the program's text (the seventh form; the later family's looks); each row that meets fmt, with fmt's text TOLD by the authors' own Lean function (tested against real Go, not proved from fmt's source: count such statements apart). THE CARD IS WHAT COUNTS. Prove the row's statement (the work); the ties are given (YtdhgpkacilcfgaaGreatDoorTie.lean); close each card by the builder's one call (the guide's Derived/Test/ToyasCard.lean, 'card_holds'). Laid BY PROGRAM, IN A SANDBOX (cutbox-door.mjs). By AI agents, Wed Nov 11 2026. No macro, syntax, notation, axiom, sorry.
-/
import Derived.Test.YtdhgpkacilcfgaaGreatDoorRows
import GoSem.ClaimSeven
namespace Go.Proofs.YtdhgpkacilcfgaaGreatDoor
namespace Rows

/-- THE TIED CARD OF 'tocsinlaw20.FeedTwice'. -/
def feedTwiceCard : Claim7 := { stood := { row := feedTwiceRow, standIns := [], harness := (true, "92f625fbe275f17bda3cbbca20531b9e9dfd91f9cf5f39a7d2e56d5c478f9bc9"), looks := true }, kinds := [], alts := [], laidByText := true, laidKinds := [.data, .data, .data, .sentinel, .sentinel], laidTests := true, laidLooks := .later }
def FeedTwiceCardSaid : Prop := Claim7.holds Tryz.pinned (.plain (OpenSpec.ofChange feedTwiceSpec)) feedTwiceCard

/-- THE TIED CARD OF 'tocsinlaw20.FeedFolds'. -/
def feedFoldsCard : Claim7 := { stood := { row := feedFoldsRow, standIns := [], harness := (true, "92f625fbe275f17bda3cbbca20531b9e9dfd91f9cf5f39a7d2e56d5c478f9bc9"), looks := true }, kinds := [], alts := [], laidByText := true, laidKinds := [.data, .data, .data, .sentinel, .sentinel], laidTests := true, laidLooks := .later }
def FeedFoldsCardSaid : Prop := Claim7.holds Tryz.pinned (.plain (OpenSpec.ofChange feedFoldsSpec)) feedFoldsCard

/-- THE SECOND FORM's CARD OF 'tocsinlaw20.FeedTwice'. -/
def feedTwiceUptoCard : Claim7 := { stood := { row := feedTwiceUptoRow, standIns := [], harness := (true, "92f625fbe275f17bda3cbbca20531b9e9dfd91f9cf5f39a7d2e56d5c478f9bc9"), looks := true }, kinds := [], alts := [], laidByText := true, laidKinds := [.data, .data, .data, .sentinel, .sentinel], laidTests := true, laidLooks := .later }
def FeedTwiceUptoCardSaid : Prop := Claim7.holds Tryz.pinned (.plain (OpenSpec.upto feedTwiceSpec)) feedTwiceUptoCard

/-- THE SECOND FORM's CARD OF 'tocsinlaw20.FeedFolds'. -/
def feedFoldsUptoCard : Claim7 := { stood := { row := feedFoldsUptoRow, standIns := [], harness := (true, "92f625fbe275f17bda3cbbca20531b9e9dfd91f9cf5f39a7d2e56d5c478f9bc9"), looks := true }, kinds := [], alts := [], laidByText := true, laidKinds := [.data, .data, .data, .sentinel, .sentinel], laidTests := true, laidLooks := .later }
def FeedFoldsUptoCardSaid : Prop := Claim7.holds Tryz.pinned (.plain (OpenSpec.upto feedFoldsSpec)) feedFoldsUptoCard
end Rows
end Go.Proofs.YtdhgpkacilcfgaaGreatDoor
