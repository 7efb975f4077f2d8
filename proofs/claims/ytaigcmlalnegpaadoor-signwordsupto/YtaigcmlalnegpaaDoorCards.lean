/-
  DERIVED. GIVEN WITH THE SEED: THE CARDS: each row of YtaigcmlalnegpaaDoorRows.lean that lists a variable, with what it lists TIED to the program's text (the seventh form; the later family's looks); each row that meets fmt, with fmt's text TOLD by the authors' own Lean function (tested against real Go, not proved from fmt's source: count such statements apart). THE CARD IS WHAT COUNTS. Prove the row's statement (the work); the ties are given (YtaigcmlalnegpaaDoorTie.lean); close each card by the builder's one call (the guide's Derived/Test/ToyasCard.lean, 'card_holds'). Laid BY PROGRAM, IN A SANDBOX (cutbox-door.mjs). By AI agents, Wed Nov 11 2026. No macro, syntax, notation, axiom, sorry.
-/
import Derived.Test.YtaigcmlalnegpaaDoorRows
import GoSem.ClaimSeven
namespace Go.Proofs.YtaigcmlalnegpaaDoor
namespace Rows

/-- THE TIED CARD OF 'tocsinlaw01.SignKeeps'. -/
def signKeepsCard : Claim7 := { stood := { row := signKeepsRow, standIns := [], harness := (true, "542f1e554c23873639144b5583941d437f147336dcfd0030a1d61dbac02429c7"), looks := false }, kinds := [], alts := [], laidByText := true, laidKinds := [.data, .data, .pinned], laidTests := true, laidLooks := .later }
def SignKeepsCardSaid : Prop := Claim7.holds Tryd.pinned (.plain (OpenSpec.ofChange signKeepsSpec)) signKeepsCard

/-- THE TIED CARD OF 'tocsinlaw01.SignParts'. -/
def signPartsCard : Claim7 := { stood := { row := signPartsRow, standIns := [], harness := (true, "542f1e554c23873639144b5583941d437f147336dcfd0030a1d61dbac02429c7"), looks := false }, kinds := [], alts := [], laidByText := true, laidKinds := [.data, .data, .pinned], laidTests := true, laidLooks := .later }
def SignPartsCardSaid : Prop := Claim7.holds Tryd.pinned (.plain (OpenSpec.ofChange signPartsSpec)) signPartsCard

/-- THE TIED CARD OF 'tocsinlaw01.SignFinds'. -/
def signFindsCard : Claim7 := { stood := { row := signFindsRow, standIns := [], harness := (true, "542f1e554c23873639144b5583941d437f147336dcfd0030a1d61dbac02429c7"), looks := false }, kinds := [], alts := [], laidByText := true, laidKinds := [.data, .data, .pinned], laidTests := true, laidLooks := .later }
def SignFindsCardSaid : Prop := Claim7.holds Tryd.pinned (.plain (OpenSpec.ofChange signFindsSpec)) signFindsCard

/-- THE TIED CARD OF 'tocsinlaw01.SignIsWord'. -/
def signIsWordCard : Claim7 := { stood := { row := signIsWordRow, standIns := [], harness := (true, "542f1e554c23873639144b5583941d437f147336dcfd0030a1d61dbac02429c7"), looks := false }, kinds := [], alts := [], laidByText := true, laidKinds := [.data, .data, .pinned], laidTests := true, laidLooks := .later }
def SignIsWordCardSaid : Prop := Claim7.holds Tryd.pinned (.plain (OpenSpec.ofChange signIsWordSpec)) signIsWordCard

/-- THE TIED CARD OF 'tocsinlaw01.SignWords'. -/
def signWordsCard : Claim7 := { stood := { row := signWordsRow, standIns := [], harness := (true, "542f1e554c23873639144b5583941d437f147336dcfd0030a1d61dbac02429c7"), looks := false }, kinds := [], alts := [], laidByText := true, laidKinds := [.data, .data, .pinned], laidTests := true, laidLooks := .later }
def SignWordsCardSaid : Prop := Claim7.holds Tryd.pinned (.plain (OpenSpec.ofChange signWordsSpec)) signWordsCard

/-- THE TIED CARD OF 'tocsinlaw01.SignEdges'. -/
def signEdgesCard : Claim7 := { stood := { row := signEdgesRow, standIns := [], harness := (true, "542f1e554c23873639144b5583941d437f147336dcfd0030a1d61dbac02429c7"), looks := false }, kinds := [], alts := [], laidByText := true, laidKinds := [.data, .data, .pinned], laidTests := true, laidLooks := .later }
def SignEdgesCardSaid : Prop := Claim7.holds Tryd.pinned (.plain (OpenSpec.ofChange signEdgesSpec)) signEdgesCard

/-- THE SECOND FORM's CARD OF 'tocsinlaw01.SignKeeps'. -/
def signKeepsUptoCard : Claim7 := { stood := { row := signKeepsUptoRow, standIns := [], harness := (true, "542f1e554c23873639144b5583941d437f147336dcfd0030a1d61dbac02429c7"), looks := false }, kinds := [], alts := [], laidByText := true, laidKinds := [.data, .data, .pinned], laidTests := true, laidLooks := .later }
def SignKeepsUptoCardSaid : Prop := Claim7.holds Tryd.pinned (.plain (OpenSpec.upto signKeepsSpec)) signKeepsUptoCard

/-- THE SECOND FORM's CARD OF 'tocsinlaw01.SignParts'. -/
def signPartsUptoCard : Claim7 := { stood := { row := signPartsUptoRow, standIns := [], harness := (true, "542f1e554c23873639144b5583941d437f147336dcfd0030a1d61dbac02429c7"), looks := false }, kinds := [], alts := [], laidByText := true, laidKinds := [.data, .data, .pinned], laidTests := true, laidLooks := .later }
def SignPartsUptoCardSaid : Prop := Claim7.holds Tryd.pinned (.plain (OpenSpec.upto signPartsSpec)) signPartsUptoCard

/-- THE SECOND FORM's CARD OF 'tocsinlaw01.SignFinds'. -/
def signFindsUptoCard : Claim7 := { stood := { row := signFindsUptoRow, standIns := [], harness := (true, "542f1e554c23873639144b5583941d437f147336dcfd0030a1d61dbac02429c7"), looks := false }, kinds := [], alts := [], laidByText := true, laidKinds := [.data, .data, .pinned], laidTests := true, laidLooks := .later }
def SignFindsUptoCardSaid : Prop := Claim7.holds Tryd.pinned (.plain (OpenSpec.upto signFindsSpec)) signFindsUptoCard

/-- THE SECOND FORM's CARD OF 'tocsinlaw01.SignIsWord'. -/
def signIsWordUptoCard : Claim7 := { stood := { row := signIsWordUptoRow, standIns := [], harness := (true, "542f1e554c23873639144b5583941d437f147336dcfd0030a1d61dbac02429c7"), looks := false }, kinds := [], alts := [], laidByText := true, laidKinds := [.data, .data, .pinned], laidTests := true, laidLooks := .later }
def SignIsWordUptoCardSaid : Prop := Claim7.holds Tryd.pinned (.plain (OpenSpec.upto signIsWordSpec)) signIsWordUptoCard

/-- THE SECOND FORM's CARD OF 'tocsinlaw01.SignWords'. -/
def signWordsUptoCard : Claim7 := { stood := { row := signWordsUptoRow, standIns := [], harness := (true, "542f1e554c23873639144b5583941d437f147336dcfd0030a1d61dbac02429c7"), looks := false }, kinds := [], alts := [], laidByText := true, laidKinds := [.data, .data, .pinned], laidTests := true, laidLooks := .later }
def SignWordsUptoCardSaid : Prop := Claim7.holds Tryd.pinned (.plain (OpenSpec.upto signWordsSpec)) signWordsUptoCard

/-- THE SECOND FORM's CARD OF 'tocsinlaw01.SignEdges'. -/
def signEdgesUptoCard : Claim7 := { stood := { row := signEdgesUptoRow, standIns := [], harness := (true, "542f1e554c23873639144b5583941d437f147336dcfd0030a1d61dbac02429c7"), looks := false }, kinds := [], alts := [], laidByText := true, laidKinds := [.data, .data, .pinned], laidTests := true, laidLooks := .later }
def SignEdgesUptoCardSaid : Prop := Claim7.holds Tryd.pinned (.plain (OpenSpec.upto signEdgesSpec)) signEdgesUptoCard
end Rows
end Go.Proofs.YtaigcmlalnegpaaDoor
