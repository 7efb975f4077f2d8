/-
  DERIVED. GIVEN WITH THE SEED: THE CARDS: each row of YtlfiebapfgpchaaGreatDoorRows.lean that lists a variable, with what it lists TIED to the program's text (the seventh form; the later family's looks); each row that meets fmt, with fmt's text TOLD by the authors' own Lean function (tested against real Go, not proved from fmt's source: count such statements apart). THE CARD IS WHAT COUNTS. Prove the row's statement (the work); the ties are given (YtlfiebapfgpchaaGreatDoorTie.lean); close each card by the builder's one call (the guide's Derived/Test/ToyasCard.lean, 'card_holds'). Laid BY PROGRAM, IN A SANDBOX (cutbox-door.mjs). By AI agents, Wed Nov 11 2026. No macro, syntax, notation, axiom, sorry.
-/
import Derived.Test.YtlfiebapfgpchaaGreatDoorRows
import GoSem.ClaimSeven
namespace Go.Proofs.YtlfiebapfgpchaaGreatDoor
namespace Rows

/-- THE TIED CARD OF 'tocsinlaw17.SessionRates'. -/
def sessionRatesCard : Claim7 := { stood := { row := sessionRatesRow, standIns := [], harness := (true, "bb2837c0520ac250da5cc4c0ad438b396b50b2fd87616c078edb118763feb720"), looks := true }, kinds := [], alts := [], laidByText := true, laidKinds := [.data, .data], laidTests := true, laidLooks := .later }
def SessionRatesCardSaid : Prop := Claim7.holds Tryz.pinned (.plain (OpenSpec.ofChange sessionRatesSpec)) sessionRatesCard

/-- THE TIED CARD OF 'tocsinlaw17.SessionKnown'. -/
def sessionKnownCard : Claim7 := { stood := { row := sessionKnownRow, standIns := [], harness := (true, "bb2837c0520ac250da5cc4c0ad438b396b50b2fd87616c078edb118763feb720"), looks := true }, kinds := [], alts := [], laidByText := true, laidKinds := [.data, .data], laidTests := true, laidLooks := .later }
def SessionKnownCardSaid : Prop := Claim7.holds Tryz.pinned (.plain (OpenSpec.ofChange sessionKnownSpec)) sessionKnownCard

/-- THE TIED CARD OF 'tocsinlaw17.SessionKeys'. -/
def sessionKeysCard : Claim7 := { stood := { row := sessionKeysRow, standIns := [], harness := (true, "bb2837c0520ac250da5cc4c0ad438b396b50b2fd87616c078edb118763feb720"), looks := true }, kinds := [], alts := [], laidByText := true, laidKinds := [.data, .data], laidTests := true, laidLooks := .later }
def SessionKeysCardSaid : Prop := Claim7.holds Tryz.pinned (.plain (OpenSpec.ofChange sessionKeysSpec)) sessionKeysCard

/-- THE SECOND FORM's CARD OF 'tocsinlaw17.SessionRates'. -/
def sessionRatesUptoCard : Claim7 := { stood := { row := sessionRatesUptoRow, standIns := [], harness := (true, "bb2837c0520ac250da5cc4c0ad438b396b50b2fd87616c078edb118763feb720"), looks := true }, kinds := [], alts := [], laidByText := true, laidKinds := [.data, .data], laidTests := true, laidLooks := .later }
def SessionRatesUptoCardSaid : Prop := Claim7.holds Tryz.pinned (.plain (OpenSpec.upto sessionRatesSpec)) sessionRatesUptoCard

/-- THE SECOND FORM's CARD OF 'tocsinlaw17.SessionKnown'. -/
def sessionKnownUptoCard : Claim7 := { stood := { row := sessionKnownUptoRow, standIns := [], harness := (true, "bb2837c0520ac250da5cc4c0ad438b396b50b2fd87616c078edb118763feb720"), looks := true }, kinds := [], alts := [], laidByText := true, laidKinds := [.data, .data], laidTests := true, laidLooks := .later }
def SessionKnownUptoCardSaid : Prop := Claim7.holds Tryz.pinned (.plain (OpenSpec.upto sessionKnownSpec)) sessionKnownUptoCard

/-- THE SECOND FORM's CARD OF 'tocsinlaw17.SessionKeys'. -/
def sessionKeysUptoCard : Claim7 := { stood := { row := sessionKeysUptoRow, standIns := [], harness := (true, "bb2837c0520ac250da5cc4c0ad438b396b50b2fd87616c078edb118763feb720"), looks := true }, kinds := [], alts := [], laidByText := true, laidKinds := [.data, .data], laidTests := true, laidLooks := .later }
def SessionKeysUptoCardSaid : Prop := Claim7.holds Tryz.pinned (.plain (OpenSpec.upto sessionKeysSpec)) sessionKeysUptoCard
end Rows
end Go.Proofs.YtlfiebapfgpchaaGreatDoor
