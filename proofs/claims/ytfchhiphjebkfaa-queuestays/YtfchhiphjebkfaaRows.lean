/-
  No cell of these rows narrows 'for every input' (looked for: loops, veiled, ifaces, maps, wideKeys, modest, calm, conditions, laid).
  DERIVED. THE GIVEN ROWS OF THIS SEAT. 4 by the template 'for every input the law returns true; each argument reads behind the call as it read before'; 0 by the template 'total and deterministic' (their statements: YtfchhiphjebkfaaTotals.lean).
  GIVEN WITH THE SEED: the statements are not yours to turn. If you find one false, say at which input.
  Laid BY PROGRAM, IN A SANDBOX (cutbox-rows.mjs): the forced cells as the released guide's own fill.sh prints them over the translation 96c89465cb828bd8… (all of the seat's roots in one cut). By AI agents, Wed Nov 11 2026. No macro, syntax, notation, axiom, sorry.
-/
import Derived.Test.YtfchhiphjebkfaaChecked
import GoSem.Claim
import GoSem.ClaimJoined
import GoSem.ClaimMapViews
import Derived.JoinedTies
import Derived.KernelRfl
namespace Go.Proofs.Ytfchhiphjebkfaa
/- THE CELL 'sum', in the pinned program and in every row, IS THE sha256 OF THE DUMP (.gsa) THAT YtfchhiphjebkfaaProg.lean LOADS. Nothing in Lean hashes anything: it is a label: what it is worth is what the hold of that sum in a sandbox is worth. -/
noncomputable def Try.pinned : Pinned := { name := "ytfchhiphjebkfaa", sum := "96c89465cb828bd83f9ac28c45e941a276638e6eb62db4b4ca411ff6eba47217", checked := Try.checked }
namespace Rows
def none {H : Type} : Left H := { results := [], args := [] }

/-- 'tocsinlaw12.QueueOrder': WHATEVER THE INPUT: true; the input reads as it did. -/
def queueOrderSpec : ChangeSpec := { name := "queueOrder", fn := fun _ => fun
  | [d1, d2, d3] => { results := [.lit (.bool true)], args := [d1, d2, d3] }
  | _ => none }
def queueOrderRow : OpenClaim := { program := "ytfchhiphjebkfaa", sum := "96c89465cb828bd83f9ac28c45e941a276638e6eb62db4b4ca411ff6eba47217", func := "tocsin/tocsinlaw12.QueueOrder", spec := "queueOrder", apart := false }
def QueueOrderSaid : Prop := queueOrderRow.holds Try.pinned (OpenSpec.ofChange queueOrderSpec)

/-- ITS FALSE NEIGHBOUR: 'it returns false'. Refute it at one input. -/
def queueOrderWrong : ChangeSpec := { name := "queueOrder", fn := fun _ => fun
  | [d1, d2, d3] => { results := [.lit (.bool false)], args := [d1, d2, d3] }
  | _ => none }
def QueueOrderWrongFalsely : Prop := queueOrderRow.holds Try.pinned (OpenSpec.ofChange queueOrderWrong)

/-- 'tocsinlaw12.QueueDelays': WHATEVER THE INPUT: true; the input reads as it did. -/
def queueDelaysSpec : ChangeSpec := { name := "queueDelays", fn := fun _ => fun
  | [d1, d2, d3, d4] => { results := [.lit (.bool true)], args := [d1, d2, d3, d4] }
  | _ => none }
def queueDelaysRow : OpenClaim := { program := "ytfchhiphjebkfaa", sum := "96c89465cb828bd83f9ac28c45e941a276638e6eb62db4b4ca411ff6eba47217", func := "tocsin/tocsinlaw12.QueueDelays", spec := "queueDelays", apart := false }
def QueueDelaysSaid : Prop := queueDelaysRow.holds Try.pinned (OpenSpec.ofChange queueDelaysSpec)

/-- ITS FALSE NEIGHBOUR: 'it returns false'. Refute it at one input. -/
def queueDelaysWrong : ChangeSpec := { name := "queueDelays", fn := fun _ => fun
  | [d1, d2, d3, d4] => { results := [.lit (.bool false)], args := [d1, d2, d3, d4] }
  | _ => none }
def QueueDelaysWrongFalsely : Prop := queueDelaysRow.holds Try.pinned (OpenSpec.ofChange queueDelaysWrong)

/-- 'tocsinlaw12.QueueSets': WHATEVER THE INPUT: true; the input reads as it did. -/
def queueSetsSpec : ChangeSpec := { name := "queueSets", fn := fun _ => fun
  | [d1, d2, d3, d4] => { results := [.lit (.bool true)], args := [d1, d2, d3, d4] }
  | _ => none }
def queueSetsRow : OpenClaim := { program := "ytfchhiphjebkfaa", sum := "96c89465cb828bd83f9ac28c45e941a276638e6eb62db4b4ca411ff6eba47217", func := "tocsin/tocsinlaw12.QueueSets", spec := "queueSets", apart := false }
def QueueSetsSaid : Prop := queueSetsRow.holds Try.pinned (OpenSpec.ofChange queueSetsSpec)

/-- ITS FALSE NEIGHBOUR: 'it returns false'. Refute it at one input. -/
def queueSetsWrong : ChangeSpec := { name := "queueSets", fn := fun _ => fun
  | [d1, d2, d3, d4] => { results := [.lit (.bool false)], args := [d1, d2, d3, d4] }
  | _ => none }
def QueueSetsWrongFalsely : Prop := queueSetsRow.holds Try.pinned (OpenSpec.ofChange queueSetsWrong)

/-- 'tocsinlaw12.QueueStays': WHATEVER THE INPUT: true; the input reads as it did. -/
def queueStaysSpec : ChangeSpec := { name := "queueStays", fn := fun _ => fun
  | [d1, d2, d3] => { results := [.lit (.bool true)], args := [d1, d2, d3] }
  | _ => none }
def queueStaysRow : OpenClaim := { program := "ytfchhiphjebkfaa", sum := "96c89465cb828bd83f9ac28c45e941a276638e6eb62db4b4ca411ff6eba47217", func := "tocsin/tocsinlaw12.QueueStays", spec := "queueStays", unfollowed := true, recurses := true, apart := false }
def QueueStaysSaid : Prop := queueStaysRow.holds Try.pinned (OpenSpec.ofChange queueStaysSpec)

/-- ITS FALSE NEIGHBOUR: 'it returns false'. Refute it at one input. -/
def queueStaysWrong : ChangeSpec := { name := "queueStays", fn := fun _ => fun
  | [d1, d2, d3] => { results := [.lit (.bool false)], args := [d1, d2, d3] }
  | _ => none }
def QueueStaysWrongFalsely : Prop := queueStaysRow.holds Try.pinned (OpenSpec.ofChange queueStaysWrong)

/- THE SECOND FORM. 'bulk': how many values and letters a reading holds, each counted each time it is reached (what is shared counts as often as it is met; a slice's spare places count too). A statement '..UptoSaid' is the law's where the arguments, and the package variables that the reading takes, are together of bulk at most 1048576: NARROWER than '..Said'. Prove '..Said' where nothing that the law and all that it calls make is longer than what came in: it says more and counts as full. Else prove '..UptoSaid'. A law counts once. -/
mutual
def uptoBulk {H : Type} : DataW H → Nat
  | .lit (.string bytes) => bytes.length + 1
  | .lit _ => 1
  | .nil => 1
  | .ptr d => uptoBulk d + 1
  | .slice elems spare => uptoBulkAll elems + uptoBulkAll spare + 1
  | .agg parts => uptoBulkAll parts + 1
  | .iface _ d => uptoBulk d + 1
  | .map entries => uptoBulkEntries entries + 1
  | .held _ => 1
def uptoBulkAll {H : Type} : List (DataW H) → Nat
  | [] => 0
  | d :: r => uptoBulk d + uptoBulkAll r
def uptoBulkEntries {H : Type} : List (Lit × DataW H) → Nat
  | [] => 0
  | x :: r => uptoBulkEntry x + uptoBulkEntries r
def uptoBulkEntry {H : Type} : Lit × DataW H → Nat
  | (.string bytes, d) => bytes.length + uptoBulk d + 1
  | (_, d) => uptoBulk d + 1
 end
def uptoSmall : (H : Type) → List (DataW H) → Bool := fun _ ds => decide (uptoBulkAll ds ≤ 1048576)
def OpenSpec.upto (s : _root_.Go.ChangeSpec) : _root_.Go.OpenSpec := { _root_.Go.OpenSpec.ofChange s with cond := some uptoSmall }

/-- 'tocsinlaw12.QueueOrder', WHERE WHAT IT READS IS OF BULK AT MOST 1048576: true; the input reads as it did. -/
def queueOrderUptoRow : OpenClaim := { program := "ytfchhiphjebkfaa", sum := "96c89465cb828bd83f9ac28c45e941a276638e6eb62db4b4ca411ff6eba47217", func := "tocsin/tocsinlaw12.QueueOrder", spec := "queueOrder", apart := false, narrowed := true }
def QueueOrderUptoSaid : Prop := queueOrderUptoRow.holds Try.pinned (OpenSpec.upto queueOrderSpec)

/-- 'tocsinlaw12.QueueDelays', WHERE WHAT IT READS IS OF BULK AT MOST 1048576: true; the input reads as it did. -/
def queueDelaysUptoRow : OpenClaim := { program := "ytfchhiphjebkfaa", sum := "96c89465cb828bd83f9ac28c45e941a276638e6eb62db4b4ca411ff6eba47217", func := "tocsin/tocsinlaw12.QueueDelays", spec := "queueDelays", apart := false, narrowed := true }
def QueueDelaysUptoSaid : Prop := queueDelaysUptoRow.holds Try.pinned (OpenSpec.upto queueDelaysSpec)

/-- 'tocsinlaw12.QueueSets', WHERE WHAT IT READS IS OF BULK AT MOST 1048576: true; the input reads as it did. -/
def queueSetsUptoRow : OpenClaim := { program := "ytfchhiphjebkfaa", sum := "96c89465cb828bd83f9ac28c45e941a276638e6eb62db4b4ca411ff6eba47217", func := "tocsin/tocsinlaw12.QueueSets", spec := "queueSets", apart := false, narrowed := true }
def QueueSetsUptoSaid : Prop := queueSetsUptoRow.holds Try.pinned (OpenSpec.upto queueSetsSpec)

/-- 'tocsinlaw12.QueueStays', WHERE WHAT IT READS IS OF BULK AT MOST 1048576: true; the input reads as it did. -/
def queueStaysUptoRow : OpenClaim := { program := "ytfchhiphjebkfaa", sum := "96c89465cb828bd83f9ac28c45e941a276638e6eb62db4b4ca411ff6eba47217", func := "tocsin/tocsinlaw12.QueueStays", spec := "queueStays", unfollowed := true, recurses := true, apart := false, narrowed := true }
def QueueStaysUptoSaid : Prop := queueStaysUptoRow.holds Try.pinned (OpenSpec.upto queueStaysSpec)

end Rows
end Go.Proofs.Ytfchhiphjebkfaa
