/-
  DERIVED. GIVEN WITH THE SEED: THE CARDS: each row of YtjfhpgafglmhdabDoorRows.lean that lists a variable, with what it lists TIED to the program's text (the seventh form; the later family's looks); each row that meets fmt, with fmt's text TOLD by the authors' own Lean function (tested against real Go, not proved from fmt's source: count such statements apart). THE CARD IS WHAT COUNTS. Prove the row's statement (the work); the ties are given (YtjfhpgafglmhdabDoorTie.lean); close each card by the builder's one call (the guide's Derived/Test/ToyasCard.lean, 'card_holds'). Laid BY PROGRAM, IN A SANDBOX (cutbox-door.mjs). By AI agents, Wed Nov 11 2026. No macro, syntax, notation, axiom, sorry.
-/
import Derived.Test.YtjfhpgafglmhdabDoorRows
import GoSem.ClaimSeven
namespace Go.Proofs.YtjfhpgafglmhdabDoor
namespace Rows

/-- THE TIED CARD OF 'tocsinlaw03.GlobCompiles'. -/
def globCompilesCard : Claim7 := { stood := { row := globCompilesRow, standIns := [], harness := (true, "ea614928381a955b2a6d230154b257c86584678132a07f0aff09972fba3dd81c"), looks := false }, kinds := [], alts := [], laidByText := true, laidKinds := [.data, .data, .pinned], laidTests := true, laidLooks := .later }
def GlobCompilesCardSaid : Prop := Claim7.holds Tryd.pinned (.plain (OpenSpec.ofChange globCompilesSpec)) globCompilesCard

/-- THE TIED CARD OF 'tocsinlaw03.GlobWhole'. -/
def globWholeCard : Claim7 := { stood := { row := globWholeRow, standIns := [], harness := (true, "ea614928381a955b2a6d230154b257c86584678132a07f0aff09972fba3dd81c"), looks := false }, kinds := [], alts := [], laidByText := true, laidKinds := [.data, .data, .pinned], laidTests := true, laidLooks := .later }
def GlobWholeCardSaid : Prop := Claim7.holds Tryd.pinned (.plain (OpenSpec.ofChange globWholeSpec)) globWholeCard

/-- THE TIED CARD OF 'tocsinlaw03.GlobWithin'. -/
def globWithinCard : Claim7 := { stood := { row := globWithinRow, standIns := [], harness := (true, "ea614928381a955b2a6d230154b257c86584678132a07f0aff09972fba3dd81c"), looks := false }, kinds := [], alts := [], laidByText := true, laidKinds := [.data, .data, .pinned], laidTests := true, laidLooks := .later }
def GlobWithinCardSaid : Prop := Claim7.holds Tryd.pinned (.plain (OpenSpec.ofChange globWithinSpec)) globWithinCard

/-- THE SECOND FORM's CARD OF 'tocsinlaw03.GlobCompiles'. -/
def globCompilesUptoCard : Claim7 := { stood := { row := globCompilesUptoRow, standIns := [], harness := (true, "ea614928381a955b2a6d230154b257c86584678132a07f0aff09972fba3dd81c"), looks := false }, kinds := [], alts := [], laidByText := true, laidKinds := [.data, .data, .pinned], laidTests := true, laidLooks := .later }
def GlobCompilesUptoCardSaid : Prop := Claim7.holds Tryd.pinned (.plain (OpenSpec.upto globCompilesSpec)) globCompilesUptoCard

/-- THE SECOND FORM's CARD OF 'tocsinlaw03.GlobWhole'. -/
def globWholeUptoCard : Claim7 := { stood := { row := globWholeUptoRow, standIns := [], harness := (true, "ea614928381a955b2a6d230154b257c86584678132a07f0aff09972fba3dd81c"), looks := false }, kinds := [], alts := [], laidByText := true, laidKinds := [.data, .data, .pinned], laidTests := true, laidLooks := .later }
def GlobWholeUptoCardSaid : Prop := Claim7.holds Tryd.pinned (.plain (OpenSpec.upto globWholeSpec)) globWholeUptoCard

/-- THE SECOND FORM's CARD OF 'tocsinlaw03.GlobWithin'. -/
def globWithinUptoCard : Claim7 := { stood := { row := globWithinUptoRow, standIns := [], harness := (true, "ea614928381a955b2a6d230154b257c86584678132a07f0aff09972fba3dd81c"), looks := false }, kinds := [], alts := [], laidByText := true, laidKinds := [.data, .data, .pinned], laidTests := true, laidLooks := .later }
def GlobWithinUptoCardSaid : Prop := Claim7.holds Tryd.pinned (.plain (OpenSpec.upto globWithinSpec)) globWithinUptoCard
end Rows
end Go.Proofs.YtjfhpgafglmhdabDoor
