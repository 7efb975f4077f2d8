/-
  DERIVED. GIVEN WITH THE SEED: THE CARDS: each row of YtjfhpgafglmhdaaDoorRows.lean that lists a variable, with what it lists TIED to the program's text (the seventh form; the later family's looks); each row that meets fmt, with fmt's text TOLD by the authors' own Lean function (tested against real Go, not proved from fmt's source: count such statements apart). THE CARD IS WHAT COUNTS. Prove the row's statement (the work); the ties are given (YtjfhpgafglmhdaaDoorTie.lean); close each card by the builder's one call (the guide's Derived/Test/ToyasCard.lean, 'card_holds'). Laid BY PROGRAM, IN A SANDBOX (cutbox-door.mjs). By AI agents, Wed Nov 11 2026. No macro, syntax, notation, axiom, sorry.
-/
import Derived.Test.YtjfhpgafglmhdaaDoorRows
import GoSem.ClaimSeven
namespace Go.Proofs.YtjfhpgafglmhdaaDoor
namespace Rows

/-- THE TIED CARD OF 'tocsinlaw03.GlobQuotes'. -/
def globQuotesCard : Claim7 := { stood := { row := globQuotesRow, standIns := [], harness := (true, "b0432593fe05144c6c0cdecf4028df40a14fe6af765246caec4a2e01f1375140"), looks := false }, kinds := [], alts := [], laidByText := true, laidKinds := [.data, .data, .pinned], laidTests := true, laidLooks := .later }
def GlobQuotesCardSaid : Prop := Claim7.holds Tryd.pinned (.plain (OpenSpec.ofChange globQuotesSpec)) globQuotesCard

/-- THE TIED CARD OF 'tocsinlaw03.GlobSplits'. -/
def globSplitsCard : Claim7 := { stood := { row := globSplitsRow, standIns := [], harness := (true, "b0432593fe05144c6c0cdecf4028df40a14fe6af765246caec4a2e01f1375140"), looks := false }, kinds := [], alts := [], laidByText := true, laidKinds := [.data, .data, .pinned], laidTests := true, laidLooks := .later }
def GlobSplitsCardSaid : Prop := Claim7.holds Tryd.pinned (.plain (OpenSpec.ofChange globSplitsSpec)) globSplitsCard

/-- THE TIED CARD OF 'tocsinlaw03.GlobOnes'. -/
def globOnesCard : Claim7 := { stood := { row := globOnesRow, standIns := [], harness := (true, "b0432593fe05144c6c0cdecf4028df40a14fe6af765246caec4a2e01f1375140"), looks := false }, kinds := [], alts := [], laidByText := true, laidKinds := [.data, .data, .pinned], laidTests := true, laidLooks := .later }
def GlobOnesCardSaid : Prop := Claim7.holds Tryd.pinned (.plain (OpenSpec.ofChange globOnesSpec)) globOnesCard

/-- THE TIED CARD OF 'tocsinlaw03.GlobOneWay'. -/
def globOneWayCard : Claim7 := { stood := { row := globOneWayRow, standIns := [], harness := (true, "b0432593fe05144c6c0cdecf4028df40a14fe6af765246caec4a2e01f1375140"), looks := false }, kinds := [], alts := [], laidByText := true, laidKinds := [.data, .data, .pinned], laidTests := true, laidLooks := .later }
def GlobOneWayCardSaid : Prop := Claim7.holds Tryd.pinned (.plain (OpenSpec.ofChange globOneWaySpec)) globOneWayCard

/-- THE TIED CARD OF 'tocsinlaw03.GlobFolds'. -/
def globFoldsCard : Claim7 := { stood := { row := globFoldsRow, standIns := [], harness := (true, "b0432593fe05144c6c0cdecf4028df40a14fe6af765246caec4a2e01f1375140"), looks := false }, kinds := [], alts := [], laidByText := true, laidKinds := [.data, .data, .pinned], laidTests := true, laidLooks := .later }
def GlobFoldsCardSaid : Prop := Claim7.holds Tryd.pinned (.plain (OpenSpec.ofChange globFoldsSpec)) globFoldsCard

/-- THE TIED CARD OF 'tocsinlaw03.GlobEdges'. -/
def globEdgesCard : Claim7 := { stood := { row := globEdgesRow, standIns := [], harness := (true, "b0432593fe05144c6c0cdecf4028df40a14fe6af765246caec4a2e01f1375140"), looks := false }, kinds := [], alts := [], laidByText := true, laidKinds := [.data, .data, .pinned], laidTests := true, laidLooks := .later }
def GlobEdgesCardSaid : Prop := Claim7.holds Tryd.pinned (.plain (OpenSpec.ofChange globEdgesSpec)) globEdgesCard

/-- THE SECOND FORM's CARD OF 'tocsinlaw03.GlobQuotes'. -/
def globQuotesUptoCard : Claim7 := { stood := { row := globQuotesUptoRow, standIns := [], harness := (true, "b0432593fe05144c6c0cdecf4028df40a14fe6af765246caec4a2e01f1375140"), looks := false }, kinds := [], alts := [], laidByText := true, laidKinds := [.data, .data, .pinned], laidTests := true, laidLooks := .later }
def GlobQuotesUptoCardSaid : Prop := Claim7.holds Tryd.pinned (.plain (OpenSpec.upto globQuotesSpec)) globQuotesUptoCard

/-- THE SECOND FORM's CARD OF 'tocsinlaw03.GlobSplits'. -/
def globSplitsUptoCard : Claim7 := { stood := { row := globSplitsUptoRow, standIns := [], harness := (true, "b0432593fe05144c6c0cdecf4028df40a14fe6af765246caec4a2e01f1375140"), looks := false }, kinds := [], alts := [], laidByText := true, laidKinds := [.data, .data, .pinned], laidTests := true, laidLooks := .later }
def GlobSplitsUptoCardSaid : Prop := Claim7.holds Tryd.pinned (.plain (OpenSpec.upto globSplitsSpec)) globSplitsUptoCard

/-- THE SECOND FORM's CARD OF 'tocsinlaw03.GlobOnes'. -/
def globOnesUptoCard : Claim7 := { stood := { row := globOnesUptoRow, standIns := [], harness := (true, "b0432593fe05144c6c0cdecf4028df40a14fe6af765246caec4a2e01f1375140"), looks := false }, kinds := [], alts := [], laidByText := true, laidKinds := [.data, .data, .pinned], laidTests := true, laidLooks := .later }
def GlobOnesUptoCardSaid : Prop := Claim7.holds Tryd.pinned (.plain (OpenSpec.upto globOnesSpec)) globOnesUptoCard

/-- THE SECOND FORM's CARD OF 'tocsinlaw03.GlobOneWay'. -/
def globOneWayUptoCard : Claim7 := { stood := { row := globOneWayUptoRow, standIns := [], harness := (true, "b0432593fe05144c6c0cdecf4028df40a14fe6af765246caec4a2e01f1375140"), looks := false }, kinds := [], alts := [], laidByText := true, laidKinds := [.data, .data, .pinned], laidTests := true, laidLooks := .later }
def GlobOneWayUptoCardSaid : Prop := Claim7.holds Tryd.pinned (.plain (OpenSpec.upto globOneWaySpec)) globOneWayUptoCard

/-- THE SECOND FORM's CARD OF 'tocsinlaw03.GlobFolds'. -/
def globFoldsUptoCard : Claim7 := { stood := { row := globFoldsUptoRow, standIns := [], harness := (true, "b0432593fe05144c6c0cdecf4028df40a14fe6af765246caec4a2e01f1375140"), looks := false }, kinds := [], alts := [], laidByText := true, laidKinds := [.data, .data, .pinned], laidTests := true, laidLooks := .later }
def GlobFoldsUptoCardSaid : Prop := Claim7.holds Tryd.pinned (.plain (OpenSpec.upto globFoldsSpec)) globFoldsUptoCard

/-- THE SECOND FORM's CARD OF 'tocsinlaw03.GlobEdges'. -/
def globEdgesUptoCard : Claim7 := { stood := { row := globEdgesUptoRow, standIns := [], harness := (true, "b0432593fe05144c6c0cdecf4028df40a14fe6af765246caec4a2e01f1375140"), looks := false }, kinds := [], alts := [], laidByText := true, laidKinds := [.data, .data, .pinned], laidTests := true, laidLooks := .later }
def GlobEdgesUptoCardSaid : Prop := Claim7.holds Tryd.pinned (.plain (OpenSpec.upto globEdgesSpec)) globEdgesUptoCard
end Rows
end Go.Proofs.YtjfhpgafglmhdaaDoor
