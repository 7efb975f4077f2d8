/-
  No cell of these rows narrows 'for every input' (looked for: loops, veiled, ifaces, maps, wideKeys, modest, calm, conditions, laid).
  DERIVED. THE GIVEN ROWS OF THIS SEAT. 6 by the template 'for every input the law returns true; each argument reads behind the call as it read before'; 0 by the template 'total and deterministic' (their statements: YtkoojpaanpmgeaaTotals.lean).
  GIVEN WITH THE SEED: the statements are not yours to turn. If you find one false, say at which input.
  Laid BY PROGRAM, IN A SANDBOX (cutbox-rows.mjs): the forced cells as the released guide's own fill.sh prints them over the translation 08bb06c25401d7d1… (all of the seat's roots in one cut). By AI agents, Wed Nov 11 2026. No macro, syntax, notation, axiom, sorry.
-/
import Derived.Test.YtkoojpaanpmgeaaChecked
import GoSem.Claim
import GoSem.ClaimJoined
import GoSem.ClaimMapViews
import Derived.JoinedTies
import Derived.KernelRfl
namespace Go.Proofs.Ytkoojpaanpmgeaa
/- THE CELL 'sum', in the pinned program and in every row, IS THE sha256 OF THE DUMP (.gsa) THAT YtkoojpaanpmgeaaProg.lean LOADS. Nothing in Lean hashes anything: it is a label: what it is worth is what the hold of that sum in a sandbox is worth. -/
noncomputable def Try.pinned : Pinned := { name := "ytkoojpaanpmgeaa", sum := "08bb06c25401d7d15f434467bf0d193d669c6156a6378a5e94a9339ad31abec5", checked := Try.checked }
namespace Rows
def none {H : Type} : Left H := { results := [], args := [] }

/-- 'tocsinlaw05.JournalBeside': WHATEVER THE INPUT: true; the input reads as it did. -/
def journalBesideSpec : ChangeSpec := { name := "journalBeside", fn := fun _ => fun
  | [d1, d2, d3, d4] => { results := [.lit (.bool true)], args := [d1, d2, d3, d4] }
  | _ => none }
def journalBesideRow : OpenClaim := { program := "ytkoojpaanpmgeaa", sum := "08bb06c25401d7d15f434467bf0d193d669c6156a6378a5e94a9339ad31abec5", func := "tocsin/tocsinlaw05.JournalBeside", spec := "journalBeside", apart := false }
def JournalBesideSaid : Prop := journalBesideRow.holds Try.pinned (OpenSpec.ofChange journalBesideSpec)

/-- ITS FALSE NEIGHBOUR: 'it returns false'. Refute it at one input. -/
def journalBesideWrong : ChangeSpec := { name := "journalBeside", fn := fun _ => fun
  | [d1, d2, d3, d4] => { results := [.lit (.bool false)], args := [d1, d2, d3, d4] }
  | _ => none }
def JournalBesideWrongFalsely : Prop := journalBesideRow.holds Try.pinned (OpenSpec.ofChange journalBesideWrong)

/-- 'tocsinlaw05.JournalFills': WHATEVER THE INPUT: true; the input reads as it did. -/
def journalFillsSpec : ChangeSpec := { name := "journalFills", fn := fun _ => fun
  | [d1, d2] => { results := [.lit (.bool true)], args := [d1, d2] }
  | _ => none }
def journalFillsRow : OpenClaim := { program := "ytkoojpaanpmgeaa", sum := "08bb06c25401d7d15f434467bf0d193d669c6156a6378a5e94a9339ad31abec5", func := "tocsin/tocsinlaw05.JournalFills", spec := "journalFills", apart := false }
def JournalFillsSaid : Prop := journalFillsRow.holds Try.pinned (OpenSpec.ofChange journalFillsSpec)

/-- ITS FALSE NEIGHBOUR: 'it returns false'. Refute it at one input. -/
def journalFillsWrong : ChangeSpec := { name := "journalFills", fn := fun _ => fun
  | [d1, d2] => { results := [.lit (.bool false)], args := [d1, d2] }
  | _ => none }
def JournalFillsWrongFalsely : Prop := journalFillsRow.holds Try.pinned (OpenSpec.ofChange journalFillsWrong)

/-- 'tocsinlaw05.JournalSpoilt': WHATEVER THE INPUT: true; the input reads as it did. -/
def journalSpoiltSpec : ChangeSpec := { name := "journalSpoilt", fn := fun _ => fun
  | [d1, d2, d3, d4, d5] => { results := [.lit (.bool true)], args := [d1, d2, d3, d4, d5] }
  | _ => none }
def journalSpoiltRow : OpenClaim := { program := "ytkoojpaanpmgeaa", sum := "08bb06c25401d7d15f434467bf0d193d669c6156a6378a5e94a9339ad31abec5", func := "tocsin/tocsinlaw05.JournalSpoilt", spec := "journalSpoilt", apart := false }
def JournalSpoiltSaid : Prop := journalSpoiltRow.holds Try.pinned (OpenSpec.ofChange journalSpoiltSpec)

/-- ITS FALSE NEIGHBOUR: 'it returns false'. Refute it at one input. -/
def journalSpoiltWrong : ChangeSpec := { name := "journalSpoilt", fn := fun _ => fun
  | [d1, d2, d3, d4, d5] => { results := [.lit (.bool false)], args := [d1, d2, d3, d4, d5] }
  | _ => none }
def JournalSpoiltWrongFalsely : Prop := journalSpoiltRow.holds Try.pinned (OpenSpec.ofChange journalSpoiltWrong)

/-- 'tocsinlaw05.JournalBroken': WHATEVER THE INPUT: true; the input reads as it did. -/
def journalBrokenSpec : ChangeSpec := { name := "journalBroken", fn := fun _ => fun
  | [d1, d2, d3] => { results := [.lit (.bool true)], args := [d1, d2, d3] }
  | _ => none }
def journalBrokenRow : OpenClaim := { program := "ytkoojpaanpmgeaa", sum := "08bb06c25401d7d15f434467bf0d193d669c6156a6378a5e94a9339ad31abec5", func := "tocsin/tocsinlaw05.JournalBroken", spec := "journalBroken", apart := false }
def JournalBrokenSaid : Prop := journalBrokenRow.holds Try.pinned (OpenSpec.ofChange journalBrokenSpec)

/-- ITS FALSE NEIGHBOUR: 'it returns false'. Refute it at one input. -/
def journalBrokenWrong : ChangeSpec := { name := "journalBroken", fn := fun _ => fun
  | [d1, d2, d3] => { results := [.lit (.bool false)], args := [d1, d2, d3] }
  | _ => none }
def JournalBrokenWrongFalsely : Prop := journalBrokenRow.holds Try.pinned (OpenSpec.ofChange journalBrokenWrong)

/-- 'tocsinlaw05.JournalKeeps': WHATEVER THE INPUT: true; the input reads as it did. -/
def journalKeepsSpec : ChangeSpec := { name := "journalKeeps", fn := fun _ => fun
  | [d1, d2] => { results := [.lit (.bool true)], args := [d1, d2] }
  | _ => none }
def journalKeepsRow : OpenClaim := { program := "ytkoojpaanpmgeaa", sum := "08bb06c25401d7d15f434467bf0d193d669c6156a6378a5e94a9339ad31abec5", func := "tocsin/tocsinlaw05.JournalKeeps", spec := "journalKeeps", apart := false }
def JournalKeepsSaid : Prop := journalKeepsRow.holds Try.pinned (OpenSpec.ofChange journalKeepsSpec)

/-- ITS FALSE NEIGHBOUR: 'it returns false'. Refute it at one input. -/
def journalKeepsWrong : ChangeSpec := { name := "journalKeeps", fn := fun _ => fun
  | [d1, d2] => { results := [.lit (.bool false)], args := [d1, d2] }
  | _ => none }
def JournalKeepsWrongFalsely : Prop := journalKeepsRow.holds Try.pinned (OpenSpec.ofChange journalKeepsWrong)

/-- 'tocsinlaw05.JournalLasts': WHATEVER THE INPUT: true; the input reads as it did. -/
def journalLastsSpec : ChangeSpec := { name := "journalLasts", fn := fun _ => fun
  | [d1, d2, d3, d4] => { results := [.lit (.bool true)], args := [d1, d2, d3, d4] }
  | _ => none }
def journalLastsRow : OpenClaim := { program := "ytkoojpaanpmgeaa", sum := "08bb06c25401d7d15f434467bf0d193d669c6156a6378a5e94a9339ad31abec5", func := "tocsin/tocsinlaw05.JournalLasts", spec := "journalLasts", apart := false }
def JournalLastsSaid : Prop := journalLastsRow.holds Try.pinned (OpenSpec.ofChange journalLastsSpec)

/-- ITS FALSE NEIGHBOUR: 'it returns false'. Refute it at one input. -/
def journalLastsWrong : ChangeSpec := { name := "journalLasts", fn := fun _ => fun
  | [d1, d2, d3, d4] => { results := [.lit (.bool false)], args := [d1, d2, d3, d4] }
  | _ => none }
def JournalLastsWrongFalsely : Prop := journalLastsRow.holds Try.pinned (OpenSpec.ofChange journalLastsWrong)

/- THE SECOND FORM. 'bulk': how many values and letters a reading holds, each counted each time it is reached (what is shared counts as often as it is met; a slice's spare places count too). A statement '..UptoSaid' is the law's where the arguments, and the package variables that the reading takes, are together of bulk at most 1048576: NARROWER than '..Said'. Prove '..Said' where nothing that the law and all that it calls make is longer than what came in: it says more and counts as full. Else prove '..UptoSaid'. A law counts once. -/
mutual
def uptoBulk {H : Type} : DataW H → Nat
  | .lit (.string bytes) => bytes.length + 1
  | .lit _ => 1
  | .nil => 1
  | .ptr d => uptoBulk d + 1
  | .slice elems spare => uptoBulkAll elems + uptoBulkAll spare + 1
  | .agg parts => uptoBulkAll parts + 1
  | .iface _ d => uptoBulk d + 1
  | .map entries => uptoBulkEntries entries + 1
  | .held _ => 1
def uptoBulkAll {H : Type} : List (DataW H) → Nat
  | [] => 0
  | d :: r => uptoBulk d + uptoBulkAll r
def uptoBulkEntries {H : Type} : List (Lit × DataW H) → Nat
  | [] => 0
  | x :: r => uptoBulkEntry x + uptoBulkEntries r
def uptoBulkEntry {H : Type} : Lit × DataW H → Nat
  | (.string bytes, d) => bytes.length + uptoBulk d + 1
  | (_, d) => uptoBulk d + 1
 end
def uptoSmall : (H : Type) → List (DataW H) → Bool := fun _ ds => decide (uptoBulkAll ds ≤ 1048576)
def OpenSpec.upto (s : _root_.Go.ChangeSpec) : _root_.Go.OpenSpec := { _root_.Go.OpenSpec.ofChange s with cond := some uptoSmall }

/-- 'tocsinlaw05.JournalBeside', WHERE WHAT IT READS IS OF BULK AT MOST 1048576: true; the input reads as it did. -/
def journalBesideUptoRow : OpenClaim := { program := "ytkoojpaanpmgeaa", sum := "08bb06c25401d7d15f434467bf0d193d669c6156a6378a5e94a9339ad31abec5", func := "tocsin/tocsinlaw05.JournalBeside", spec := "journalBeside", apart := false, narrowed := true }
def JournalBesideUptoSaid : Prop := journalBesideUptoRow.holds Try.pinned (OpenSpec.upto journalBesideSpec)

/-- 'tocsinlaw05.JournalFills', WHERE WHAT IT READS IS OF BULK AT MOST 1048576: true; the input reads as it did. -/
def journalFillsUptoRow : OpenClaim := { program := "ytkoojpaanpmgeaa", sum := "08bb06c25401d7d15f434467bf0d193d669c6156a6378a5e94a9339ad31abec5", func := "tocsin/tocsinlaw05.JournalFills", spec := "journalFills", apart := false, narrowed := true }
def JournalFillsUptoSaid : Prop := journalFillsUptoRow.holds Try.pinned (OpenSpec.upto journalFillsSpec)

/-- 'tocsinlaw05.JournalSpoilt', WHERE WHAT IT READS IS OF BULK AT MOST 1048576: true; the input reads as it did. -/
def journalSpoiltUptoRow : OpenClaim := { program := "ytkoojpaanpmgeaa", sum := "08bb06c25401d7d15f434467bf0d193d669c6156a6378a5e94a9339ad31abec5", func := "tocsin/tocsinlaw05.JournalSpoilt", spec := "journalSpoilt", apart := false, narrowed := true }
def JournalSpoiltUptoSaid : Prop := journalSpoiltUptoRow.holds Try.pinned (OpenSpec.upto journalSpoiltSpec)

/-- 'tocsinlaw05.JournalBroken', WHERE WHAT IT READS IS OF BULK AT MOST 1048576: true; the input reads as it did. -/
def journalBrokenUptoRow : OpenClaim := { program := "ytkoojpaanpmgeaa", sum := "08bb06c25401d7d15f434467bf0d193d669c6156a6378a5e94a9339ad31abec5", func := "tocsin/tocsinlaw05.JournalBroken", spec := "journalBroken", apart := false, narrowed := true }
def JournalBrokenUptoSaid : Prop := journalBrokenUptoRow.holds Try.pinned (OpenSpec.upto journalBrokenSpec)

/-- 'tocsinlaw05.JournalKeeps', WHERE WHAT IT READS IS OF BULK AT MOST 1048576: true; the input reads as it did. -/
def journalKeepsUptoRow : OpenClaim := { program := "ytkoojpaanpmgeaa", sum := "08bb06c25401d7d15f434467bf0d193d669c6156a6378a5e94a9339ad31abec5", func := "tocsin/tocsinlaw05.JournalKeeps", spec := "journalKeeps", apart := false, narrowed := true }
def JournalKeepsUptoSaid : Prop := journalKeepsUptoRow.holds Try.pinned (OpenSpec.upto journalKeepsSpec)

/-- 'tocsinlaw05.JournalLasts', WHERE WHAT IT READS IS OF BULK AT MOST 1048576: true; the input reads as it did. -/
def journalLastsUptoRow : OpenClaim := { program := "ytkoojpaanpmgeaa", sum := "08bb06c25401d7d15f434467bf0d193d669c6156a6378a5e94a9339ad31abec5", func := "tocsin/tocsinlaw05.JournalLasts", spec := "journalLasts", apart := false, narrowed := true }
def JournalLastsUptoSaid : Prop := journalLastsUptoRow.holds Try.pinned (OpenSpec.upto journalLastsSpec)

end Rows
end Go.Proofs.Ytkoojpaanpmgeaa
