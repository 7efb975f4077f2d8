/-
  DERIVED. GIVEN WITH THE SEED: THE CARDS: each row of YtfbjhjmhcbiomaaDoorRows.lean that lists a variable, with what it lists TIED to the program's text (the seventh form; the later family's looks); each row that meets fmt, with fmt's text TOLD by the authors' own Lean function (tested against real Go, not proved from fmt's source: count such statements apart). THE CARD IS WHAT COUNTS. Prove the row's statement (the work); the ties are given (YtfbjhjmhcbiomaaDoorTie.lean); close each card by the builder's one call (the guide's Derived/Test/ToyasCard.lean, 'card_holds'). Laid BY PROGRAM, IN A SANDBOX (cutbox-door.mjs). By AI agents, Wed Nov 11 2026. No macro, syntax, notation, axiom, sorry.
-/
import Derived.Test.YtfbjhjmhcbiomaaDoorRows
import GoSem.ClaimSeven
namespace Go.Proofs.YtfbjhjmhcbiomaaDoor
namespace Rows

/-- THE TIED CARD OF 'tocsinlaw20.FeedKeeps'. -/
def feedKeepsCard : Claim7 := { stood := { row := feedKeepsRow, standIns := [], harness := (true, "c82d861e13bbd0b22daf021de679ea8892b88e9e8f4a32e0e4b593b401f53ba1"), looks := true }, kinds := [], alts := [], laidByText := true, laidKinds := [.data, .data, .data, .sentinel, .sentinel], laidTests := true, laidLooks := .later }
def FeedKeepsCardSaid : Prop := Claim7.holds Tryd.pinned (.plain (OpenSpec.ofChange feedKeepsSpec)) feedKeepsCard

/-- THE TIED CARD OF 'tocsinlaw20.FeedApart'. -/
def feedApartCard : Claim7 := { stood := { row := feedApartRow, standIns := [], harness := (true, "c82d861e13bbd0b22daf021de679ea8892b88e9e8f4a32e0e4b593b401f53ba1"), looks := true }, kinds := [], alts := [], laidByText := true, laidKinds := [.data, .data, .data, .sentinel, .sentinel], laidTests := true, laidLooks := .later }
def FeedApartCardSaid : Prop := Claim7.holds Tryd.pinned (.plain (OpenSpec.ofChange feedApartSpec)) feedApartCard

/-- THE TIED CARD OF 'tocsinlaw20.FeedKnown'. -/
def feedKnownCard : Claim7 := { stood := { row := feedKnownRow, standIns := [], harness := (true, "c82d861e13bbd0b22daf021de679ea8892b88e9e8f4a32e0e4b593b401f53ba1"), looks := true }, kinds := [], alts := [], laidByText := true, laidKinds := [.data, .data, .data, .sentinel, .sentinel], laidTests := true, laidLooks := .later }
def FeedKnownCardSaid : Prop := Claim7.holds Tryd.pinned (.plain (OpenSpec.ofChange feedKnownSpec)) feedKnownCard

/-- THE SECOND FORM's CARD OF 'tocsinlaw20.FeedKeeps'. -/
def feedKeepsUptoCard : Claim7 := { stood := { row := feedKeepsUptoRow, standIns := [], harness := (true, "c82d861e13bbd0b22daf021de679ea8892b88e9e8f4a32e0e4b593b401f53ba1"), looks := true }, kinds := [], alts := [], laidByText := true, laidKinds := [.data, .data, .data, .sentinel, .sentinel], laidTests := true, laidLooks := .later }
def FeedKeepsUptoCardSaid : Prop := Claim7.holds Tryd.pinned (.plain (OpenSpec.upto feedKeepsSpec)) feedKeepsUptoCard

/-- THE SECOND FORM's CARD OF 'tocsinlaw20.FeedApart'. -/
def feedApartUptoCard : Claim7 := { stood := { row := feedApartUptoRow, standIns := [], harness := (true, "c82d861e13bbd0b22daf021de679ea8892b88e9e8f4a32e0e4b593b401f53ba1"), looks := true }, kinds := [], alts := [], laidByText := true, laidKinds := [.data, .data, .data, .sentinel, .sentinel], laidTests := true, laidLooks := .later }
def FeedApartUptoCardSaid : Prop := Claim7.holds Tryd.pinned (.plain (OpenSpec.upto feedApartSpec)) feedApartUptoCard

/-- THE SECOND FORM's CARD OF 'tocsinlaw20.FeedKnown'. -/
def feedKnownUptoCard : Claim7 := { stood := { row := feedKnownUptoRow, standIns := [], harness := (true, "c82d861e13bbd0b22daf021de679ea8892b88e9e8f4a32e0e4b593b401f53ba1"), looks := true }, kinds := [], alts := [], laidByText := true, laidKinds := [.data, .data, .data, .sentinel, .sentinel], laidTests := true, laidLooks := .later }
def FeedKnownUptoCardSaid : Prop := Claim7.holds Tryd.pinned (.plain (OpenSpec.upto feedKnownSpec)) feedKnownUptoCard
end Rows
end Go.Proofs.YtfbjhjmhcbiomaaDoor
