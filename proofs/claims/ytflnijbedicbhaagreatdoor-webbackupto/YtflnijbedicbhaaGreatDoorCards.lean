/-
  DERIVED. GIVEN WITH THE SEED: THE CARDS: each row of YtflnijbedicbhaaGreatDoorRows.lean that lists a variable, with what it lists TIED to the program's text (the seventh form; the later family's looks); each row that meets fmt, with fmt's text TOLD by the authors' own Lean function (tested against real Go, not proved from fmt's source: count such statements apart). THE CARD IS WHAT COUNTS. Prove the row's statement (the work); the ties are given (YtflnijbedicbhaaGreatDoorTie.lean); close each card by the builder's one call (the guide's Derived/Test/ToyasCard.lean, 'card_holds'). Laid BY PROGRAM, IN A SANDBOX (cutbox-door.mjs). By AI agents, Wed Nov 11 2026. No macro, syntax, notation, axiom, sorry.
-/
import Derived.Test.YtflnijbedicbhaaGreatDoorRows
import GoSem.ClaimSeven
namespace Go.Proofs.YtflnijbedicbhaaGreatDoor
namespace Rows

/-- THE TIED CARD OF 'tocsinlaw18.WebReplies'. -/
def webRepliesCard : Claim7 := { stood := { row := webRepliesRow, standIns := [], harness := (true, "c65e5fbc6fbee214db526dc13b54382640a2cba92244e073dfaa9def1219f368"), looks := true }, kinds := [], alts := [], laidByText := true, laidKinds := [.data, .data, .data, .data, .pinned], laidTests := true, laidLooks := .later }
def WebRepliesCardSaid : Prop := Claim7.holds Tryz.pinned (.plain (OpenSpec.ofChange webRepliesSpec)) webRepliesCard

/-- THE TIED CARD OF 'tocsinlaw18.WebChunks'. -/
def webChunksCard : Claim7 := { stood := { row := webChunksRow, standIns := [], harness := (true, "c65e5fbc6fbee214db526dc13b54382640a2cba92244e073dfaa9def1219f368"), looks := true }, kinds := [], alts := [], laidByText := true, laidKinds := [.data, .data, .data, .data, .pinned], laidTests := true, laidLooks := .later }
def WebChunksCardSaid : Prop := Claim7.holds Tryz.pinned (.plain (OpenSpec.ofChange webChunksSpec)) webChunksCard

/-- THE TIED CARD OF 'tocsinlaw18.WebPieces'. -/
def webPiecesCard : Claim7 := { stood := { row := webPiecesRow, standIns := [], harness := (true, "c65e5fbc6fbee214db526dc13b54382640a2cba92244e073dfaa9def1219f368"), looks := true }, kinds := [], alts := [], laidByText := true, laidKinds := [.data, .data, .data, .data, .pinned], laidTests := true, laidLooks := .later }
def WebPiecesCardSaid : Prop := Claim7.holds Tryz.pinned (.plain (OpenSpec.ofChange webPiecesSpec)) webPiecesCard

/-- THE TIED CARD OF 'tocsinlaw18.WebBack'. -/
def webBackCard : Claim7 := { stood := { row := webBackRow, standIns := [], harness := (true, "c65e5fbc6fbee214db526dc13b54382640a2cba92244e073dfaa9def1219f368"), looks := true }, kinds := [], alts := [], laidByText := true, laidKinds := [.data, .data, .data, .data, .pinned], laidTests := true, laidLooks := .later }
def WebBackCardSaid : Prop := Claim7.holds Tryz.pinned (.plain (OpenSpec.ofChange webBackSpec)) webBackCard

/-- THE SECOND FORM's CARD OF 'tocsinlaw18.WebReplies'. -/
def webRepliesUptoCard : Claim7 := { stood := { row := webRepliesUptoRow, standIns := [], harness := (true, "c65e5fbc6fbee214db526dc13b54382640a2cba92244e073dfaa9def1219f368"), looks := true }, kinds := [], alts := [], laidByText := true, laidKinds := [.data, .data, .data, .data, .pinned], laidTests := true, laidLooks := .later }
def WebRepliesUptoCardSaid : Prop := Claim7.holds Tryz.pinned (.plain (OpenSpec.upto webRepliesSpec)) webRepliesUptoCard

/-- THE SECOND FORM's CARD OF 'tocsinlaw18.WebChunks'. -/
def webChunksUptoCard : Claim7 := { stood := { row := webChunksUptoRow, standIns := [], harness := (true, "c65e5fbc6fbee214db526dc13b54382640a2cba92244e073dfaa9def1219f368"), looks := true }, kinds := [], alts := [], laidByText := true, laidKinds := [.data, .data, .data, .data, .pinned], laidTests := true, laidLooks := .later }
def WebChunksUptoCardSaid : Prop := Claim7.holds Tryz.pinned (.plain (OpenSpec.upto webChunksSpec)) webChunksUptoCard

/-- THE SECOND FORM's CARD OF 'tocsinlaw18.WebPieces'. -/
def webPiecesUptoCard : Claim7 := { stood := { row := webPiecesUptoRow, standIns := [], harness := (true, "c65e5fbc6fbee214db526dc13b54382640a2cba92244e073dfaa9def1219f368"), looks := true }, kinds := [], alts := [], laidByText := true, laidKinds := [.data, .data, .data, .data, .pinned], laidTests := true, laidLooks := .later }
def WebPiecesUptoCardSaid : Prop := Claim7.holds Tryz.pinned (.plain (OpenSpec.upto webPiecesSpec)) webPiecesUptoCard

/-- THE SECOND FORM's CARD OF 'tocsinlaw18.WebBack'. -/
def webBackUptoCard : Claim7 := { stood := { row := webBackUptoRow, standIns := [], harness := (true, "c65e5fbc6fbee214db526dc13b54382640a2cba92244e073dfaa9def1219f368"), looks := true }, kinds := [], alts := [], laidByText := true, laidKinds := [.data, .data, .data, .data, .pinned], laidTests := true, laidLooks := .later }
def WebBackUptoCardSaid : Prop := Claim7.holds Tryz.pinned (.plain (OpenSpec.upto webBackSpec)) webBackUptoCard
end Rows
end Go.Proofs.YtflnijbedicbhaaGreatDoor
