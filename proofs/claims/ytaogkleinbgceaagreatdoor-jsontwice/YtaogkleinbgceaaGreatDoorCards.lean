/-
  DERIVED. GIVEN WITH THE SEED: THE CARDS: each row of YtaogkleinbgceaaGreatDoorRows.lean that lists a variable, with what it lists TIED to the program's text (the seventh form; the later family's looks); each row that meets fmt, with fmt's text TOLD by the authors' own Lean function (tested against real Go, not proved from fmt's source: count such statements apart). THE CARD IS WHAT COUNTS. Prove the row's statement (the work); the ties are given (YtaogkleinbgceaaGreatDoorTie.lean); close each card by the builder's one call (the guide's Derived/Test/ToyasCard.lean, 'card_holds'). Laid BY PROGRAM, IN A SANDBOX (cutbox-door.mjs). By AI agents, Wed Nov 11 2026. No macro, syntax, notation, axiom, sorry.
-/
import Derived.Test.YtaogkleinbgceaaGreatDoorRows
import GoSem.ClaimSeven
namespace Go.Proofs.YtaogkleinbgceaaGreatDoor
namespace Rows

/-- THE TIED CARD OF 'tocsinlaw02.JsonLimits'. -/
def jsonLimitsCard : Claim7 := { stood := { row := jsonLimitsRow, standIns := [], harness := (true, "21cce671e3c9522f47d0903d12fa3ddf0b11a84cf02cc2084e2b920869f613bc"), looks := true }, kinds := [], alts := [], laidByText := true, laidKinds := [.data, .data, .data, .data, .sentinel, .sentinel, .pinned], laidTests := true, laidLooks := .later }
def JsonLimitsCardSaid : Prop := Claim7.holds Tryz.pinned (.plain (OpenSpec.ofChange jsonLimitsSpec)) jsonLimitsCard

/-- THE TIED CARD OF 'tocsinlaw02.JsonWide'. -/
def jsonWideCard : Claim7 := { stood := { row := jsonWideRow, standIns := [], harness := (true, "21cce671e3c9522f47d0903d12fa3ddf0b11a84cf02cc2084e2b920869f613bc"), looks := true }, kinds := [], alts := [], laidByText := true, laidKinds := [.data, .data, .data, .data, .sentinel, .sentinel, .pinned], laidTests := true, laidLooks := .later }
def JsonWideCardSaid : Prop := Claim7.holds Tryz.pinned (.plain (OpenSpec.ofChange jsonWideSpec)) jsonWideCard

/-- THE TIED CARD OF 'tocsinlaw02.JsonCut'. -/
def jsonCutCard : Claim7 := { stood := { row := jsonCutRow, standIns := [], harness := (true, "21cce671e3c9522f47d0903d12fa3ddf0b11a84cf02cc2084e2b920869f613bc"), looks := true }, kinds := [], alts := [], laidByText := true, laidKinds := [.data, .data, .data, .data, .sentinel, .sentinel, .pinned], laidTests := true, laidLooks := .later }
def JsonCutCardSaid : Prop := Claim7.holds Tryz.pinned (.plain (OpenSpec.ofChange jsonCutSpec)) jsonCutCard

/-- THE TIED CARD OF 'tocsinlaw02.JsonNumbers'. -/
def jsonNumbersCard : Claim7 := { stood := { row := jsonNumbersRow, standIns := [], harness := (true, "21cce671e3c9522f47d0903d12fa3ddf0b11a84cf02cc2084e2b920869f613bc"), looks := true }, kinds := [], alts := [], laidByText := true, laidKinds := [.data, .data, .data, .data, .sentinel, .sentinel, .pinned], laidTests := true, laidLooks := .later }
def JsonNumbersCardSaid : Prop := Claim7.holds Tryz.pinned (.plain (OpenSpec.ofChange jsonNumbersSpec)) jsonNumbersCard

/-- THE TIED CARD OF 'tocsinlaw02.JsonTwice'. -/
def jsonTwiceCard : Claim7 := { stood := { row := jsonTwiceRow, standIns := [], harness := (true, "21cce671e3c9522f47d0903d12fa3ddf0b11a84cf02cc2084e2b920869f613bc"), looks := true }, kinds := [], alts := [], laidByText := true, laidKinds := [.data, .data, .data, .data, .sentinel, .sentinel, .pinned], laidTests := true, laidLooks := .later }
def JsonTwiceCardSaid : Prop := Claim7.holds Tryz.pinned (.plain (OpenSpec.ofChange jsonTwiceSpec)) jsonTwiceCard

/-- THE TIED CARD OF 'tocsinlaw02.JsonBack'. -/
def jsonBackCard : Claim7 := { stood := { row := jsonBackRow, standIns := [], harness := (true, "21cce671e3c9522f47d0903d12fa3ddf0b11a84cf02cc2084e2b920869f613bc"), looks := true }, kinds := [], alts := [], laidByText := true, laidKinds := [.data, .data, .data, .data, .sentinel, .sentinel, .pinned], laidTests := true, laidLooks := .later }
def JsonBackCardSaid : Prop := Claim7.holds Tryz.pinned (.plain (OpenSpec.ofChange jsonBackSpec)) jsonBackCard

/-- THE SECOND FORM's CARD OF 'tocsinlaw02.JsonLimits'. -/
def jsonLimitsUptoCard : Claim7 := { stood := { row := jsonLimitsUptoRow, standIns := [], harness := (true, "21cce671e3c9522f47d0903d12fa3ddf0b11a84cf02cc2084e2b920869f613bc"), looks := true }, kinds := [], alts := [], laidByText := true, laidKinds := [.data, .data, .data, .data, .sentinel, .sentinel, .pinned], laidTests := true, laidLooks := .later }
def JsonLimitsUptoCardSaid : Prop := Claim7.holds Tryz.pinned (.plain (OpenSpec.upto jsonLimitsSpec)) jsonLimitsUptoCard

/-- THE SECOND FORM's CARD OF 'tocsinlaw02.JsonWide'. -/
def jsonWideUptoCard : Claim7 := { stood := { row := jsonWideUptoRow, standIns := [], harness := (true, "21cce671e3c9522f47d0903d12fa3ddf0b11a84cf02cc2084e2b920869f613bc"), looks := true }, kinds := [], alts := [], laidByText := true, laidKinds := [.data, .data, .data, .data, .sentinel, .sentinel, .pinned], laidTests := true, laidLooks := .later }
def JsonWideUptoCardSaid : Prop := Claim7.holds Tryz.pinned (.plain (OpenSpec.upto jsonWideSpec)) jsonWideUptoCard

/-- THE SECOND FORM's CARD OF 'tocsinlaw02.JsonCut'. -/
def jsonCutUptoCard : Claim7 := { stood := { row := jsonCutUptoRow, standIns := [], harness := (true, "21cce671e3c9522f47d0903d12fa3ddf0b11a84cf02cc2084e2b920869f613bc"), looks := true }, kinds := [], alts := [], laidByText := true, laidKinds := [.data, .data, .data, .data, .sentinel, .sentinel, .pinned], laidTests := true, laidLooks := .later }
def JsonCutUptoCardSaid : Prop := Claim7.holds Tryz.pinned (.plain (OpenSpec.upto jsonCutSpec)) jsonCutUptoCard

/-- THE SECOND FORM's CARD OF 'tocsinlaw02.JsonNumbers'. -/
def jsonNumbersUptoCard : Claim7 := { stood := { row := jsonNumbersUptoRow, standIns := [], harness := (true, "21cce671e3c9522f47d0903d12fa3ddf0b11a84cf02cc2084e2b920869f613bc"), looks := true }, kinds := [], alts := [], laidByText := true, laidKinds := [.data, .data, .data, .data, .sentinel, .sentinel, .pinned], laidTests := true, laidLooks := .later }
def JsonNumbersUptoCardSaid : Prop := Claim7.holds Tryz.pinned (.plain (OpenSpec.upto jsonNumbersSpec)) jsonNumbersUptoCard

/-- THE SECOND FORM's CARD OF 'tocsinlaw02.JsonTwice'. -/
def jsonTwiceUptoCard : Claim7 := { stood := { row := jsonTwiceUptoRow, standIns := [], harness := (true, "21cce671e3c9522f47d0903d12fa3ddf0b11a84cf02cc2084e2b920869f613bc"), looks := true }, kinds := [], alts := [], laidByText := true, laidKinds := [.data, .data, .data, .data, .sentinel, .sentinel, .pinned], laidTests := true, laidLooks := .later }
def JsonTwiceUptoCardSaid : Prop := Claim7.holds Tryz.pinned (.plain (OpenSpec.upto jsonTwiceSpec)) jsonTwiceUptoCard

/-- THE SECOND FORM's CARD OF 'tocsinlaw02.JsonBack'. -/
def jsonBackUptoCard : Claim7 := { stood := { row := jsonBackUptoRow, standIns := [], harness := (true, "21cce671e3c9522f47d0903d12fa3ddf0b11a84cf02cc2084e2b920869f613bc"), looks := true }, kinds := [], alts := [], laidByText := true, laidKinds := [.data, .data, .data, .data, .sentinel, .sentinel, .pinned], laidTests := true, laidLooks := .later }
def JsonBackUptoCardSaid : Prop := Claim7.holds Tryz.pinned (.plain (OpenSpec.upto jsonBackSpec)) jsonBackUptoCard
end Rows
end Go.Proofs.YtaogkleinbgceaaGreatDoor
