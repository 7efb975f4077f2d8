/-
  DERIVED. GIVEN WITH THE SEED: THE CARDS: each row of YtcakkkafanpjaaaGreatDoorRows.lean that lists a variable, with what it lists TIED to the program's text (the seventh form; the later family's looks); each row that meets fmt, with fmt's text TOLD by the authors' own Lean function (tested against real Go, not proved from fmt's source: count such statements apart). THE CARD IS WHAT COUNTS. Prove the row's statement (the work); the ties are given (YtcakkkafanpjaaaGreatDoorTie.lean); close each card by the builder's one call (the guide's Derived/Test/ToyasCard.lean, 'card_holds'). Laid BY PROGRAM, IN A SANDBOX (cutbox-door.mjs). By AI agents, Wed Nov 11 2026. No macro, syntax, notation, axiom, sorry.
-/
import Derived.Test.YtcakkkafanpjaaaGreatDoorRows
import GoSem.ClaimSeven
namespace Go.Proofs.YtcakkkafanpjaaaGreatDoor
namespace Rows

/-- THE TIED CARD OF 'tocsinlaw02.JsonParses'. -/
def jsonParsesCard : Claim7 := { stood := { row := jsonParsesRow, standIns := [], harness := (true, "6a830301e1e0f2812e53fc9a2b670a58910823affa6c7cad1ef45b9f9cc69bb4"), looks := true }, kinds := [], alts := [], laidByText := true, laidKinds := [.data, .data, .data, .data, .sentinel, .sentinel, .pinned], laidTests := true, laidLooks := .later }
def JsonParsesCardSaid : Prop := Claim7.holds Tryz.pinned (.plain (OpenSpec.ofChange jsonParsesSpec)) jsonParsesCard

/-- THE TIED CARD OF 'tocsinlaw02.JsonSames'. -/
def jsonSamesCard : Claim7 := { stood := { row := jsonSamesRow, standIns := [], harness := (true, "6a830301e1e0f2812e53fc9a2b670a58910823affa6c7cad1ef45b9f9cc69bb4"), looks := true }, kinds := [], alts := [], laidByText := true, laidKinds := [.data, .data, .data, .data, .sentinel, .sentinel, .pinned], laidTests := true, laidLooks := .later }
def JsonSamesCardSaid : Prop := Claim7.holds Tryz.pinned (.plain (OpenSpec.ofChange jsonSamesSpec)) jsonSamesCard

/-- THE TIED CARD OF 'tocsinlaw02.JsonLooks'. -/
def jsonLooksCard : Claim7 := { stood := { row := jsonLooksRow, standIns := [], harness := (true, "6a830301e1e0f2812e53fc9a2b670a58910823affa6c7cad1ef45b9f9cc69bb4"), looks := true }, kinds := [], alts := [], laidByText := true, laidKinds := [.data, .data, .data, .data, .sentinel, .sentinel, .pinned], laidTests := true, laidLooks := .later }
def JsonLooksCardSaid : Prop := Claim7.holds Tryz.pinned (.plain (OpenSpec.ofChange jsonLooksSpec)) jsonLooksCard

/-- THE TIED CARD OF 'tocsinlaw02.JsonMakes'. -/
def jsonMakesCard : Claim7 := { stood := { row := jsonMakesRow, standIns := [], harness := (true, "6a830301e1e0f2812e53fc9a2b670a58910823affa6c7cad1ef45b9f9cc69bb4"), looks := true }, kinds := [], alts := [], laidByText := true, laidKinds := [.data, .data, .data, .data, .sentinel, .sentinel, .pinned], laidTests := true, laidLooks := .later }
def JsonMakesCardSaid : Prop := Claim7.holds Tryz.pinned (.plain (OpenSpec.ofChange jsonMakesSpec)) jsonMakesCard

/-- THE TIED CARD OF 'tocsinlaw02.JsonOrdered'. -/
def jsonOrderedCard : Claim7 := { stood := { row := jsonOrderedRow, standIns := [], harness := (true, "6a830301e1e0f2812e53fc9a2b670a58910823affa6c7cad1ef45b9f9cc69bb4"), looks := true }, kinds := [], alts := [], laidByText := true, laidKinds := [.data, .data, .data, .data, .sentinel, .sentinel, .pinned], laidTests := true, laidLooks := .later }
def JsonOrderedCardSaid : Prop := Claim7.holds Tryz.pinned (.plain (OpenSpec.ofChange jsonOrderedSpec)) jsonOrderedCard

/-- THE SECOND FORM's CARD OF 'tocsinlaw02.JsonParses'. -/
def jsonParsesUptoCard : Claim7 := { stood := { row := jsonParsesUptoRow, standIns := [], harness := (true, "6a830301e1e0f2812e53fc9a2b670a58910823affa6c7cad1ef45b9f9cc69bb4"), looks := true }, kinds := [], alts := [], laidByText := true, laidKinds := [.data, .data, .data, .data, .sentinel, .sentinel, .pinned], laidTests := true, laidLooks := .later }
def JsonParsesUptoCardSaid : Prop := Claim7.holds Tryz.pinned (.plain (OpenSpec.upto jsonParsesSpec)) jsonParsesUptoCard

/-- THE SECOND FORM's CARD OF 'tocsinlaw02.JsonSames'. -/
def jsonSamesUptoCard : Claim7 := { stood := { row := jsonSamesUptoRow, standIns := [], harness := (true, "6a830301e1e0f2812e53fc9a2b670a58910823affa6c7cad1ef45b9f9cc69bb4"), looks := true }, kinds := [], alts := [], laidByText := true, laidKinds := [.data, .data, .data, .data, .sentinel, .sentinel, .pinned], laidTests := true, laidLooks := .later }
def JsonSamesUptoCardSaid : Prop := Claim7.holds Tryz.pinned (.plain (OpenSpec.upto jsonSamesSpec)) jsonSamesUptoCard

/-- THE SECOND FORM's CARD OF 'tocsinlaw02.JsonLooks'. -/
def jsonLooksUptoCard : Claim7 := { stood := { row := jsonLooksUptoRow, standIns := [], harness := (true, "6a830301e1e0f2812e53fc9a2b670a58910823affa6c7cad1ef45b9f9cc69bb4"), looks := true }, kinds := [], alts := [], laidByText := true, laidKinds := [.data, .data, .data, .data, .sentinel, .sentinel, .pinned], laidTests := true, laidLooks := .later }
def JsonLooksUptoCardSaid : Prop := Claim7.holds Tryz.pinned (.plain (OpenSpec.upto jsonLooksSpec)) jsonLooksUptoCard

/-- THE SECOND FORM's CARD OF 'tocsinlaw02.JsonMakes'. -/
def jsonMakesUptoCard : Claim7 := { stood := { row := jsonMakesUptoRow, standIns := [], harness := (true, "6a830301e1e0f2812e53fc9a2b670a58910823affa6c7cad1ef45b9f9cc69bb4"), looks := true }, kinds := [], alts := [], laidByText := true, laidKinds := [.data, .data, .data, .data, .sentinel, .sentinel, .pinned], laidTests := true, laidLooks := .later }
def JsonMakesUptoCardSaid : Prop := Claim7.holds Tryz.pinned (.plain (OpenSpec.upto jsonMakesSpec)) jsonMakesUptoCard

/-- THE SECOND FORM's CARD OF 'tocsinlaw02.JsonOrdered'. -/
def jsonOrderedUptoCard : Claim7 := { stood := { row := jsonOrderedUptoRow, standIns := [], harness := (true, "6a830301e1e0f2812e53fc9a2b670a58910823affa6c7cad1ef45b9f9cc69bb4"), looks := true }, kinds := [], alts := [], laidByText := true, laidKinds := [.data, .data, .data, .data, .sentinel, .sentinel, .pinned], laidTests := true, laidLooks := .later }
def JsonOrderedUptoCardSaid : Prop := Claim7.holds Tryz.pinned (.plain (OpenSpec.upto jsonOrderedSpec)) jsonOrderedUptoCard
end Rows
end Go.Proofs.YtcakkkafanpjaaaGreatDoor
