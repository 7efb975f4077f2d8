/-
  No cell of these rows narrows 'for every input' (looked for: loops, veiled, ifaces, maps, wideKeys, modest, calm, conditions, laid).
  DERIVED. THE GIVEN ROWS OF THIS SEAT. 3 by the template 'for every input the law returns true; each argument reads behind the call as it read before'; 0 by the template 'total and deterministic' (their statements: YtkfnjmkajhfhlaaTotals.lean).
  GIVEN WITH THE SEED: the statements are not yours to turn. If you find one false, say at which input.
  Laid BY PROGRAM, IN A SANDBOX (cutbox-rows.mjs): the forced cells as the released guide's own fill.sh prints them over the translation 5fc0833108d8f7ca… (all of the seat's roots in one cut). By AI agents, Wed Nov 11 2026. No macro, syntax, notation, axiom, sorry.
-/
import Derived.Test.YtkfnjmkajhfhlaaChecked
import GoSem.Claim
import GoSem.ClaimJoined
import GoSem.ClaimMapViews
import Derived.JoinedTies
import Derived.KernelRfl
namespace Go.Proofs.Ytkfnjmkajhfhlaa
/- THE CELL 'sum', in the pinned program and in every row, IS THE sha256 OF THE DUMP (.gsa) THAT YtkfnjmkajhfhlaaProg.lean LOADS. Nothing in Lean hashes anything: it is a label: what it is worth is what the hold of that sum in a sandbox is worth. -/
noncomputable def Try.pinned : Pinned := { name := "ytkfnjmkajhfhlaa", sum := "5fc0833108d8f7ca365c52a2632b47da582e6b5d2f15aa0a8dff8010a145f72d", checked := Try.checked }
namespace Rows
def none {H : Type} : Left H := { results := [], args := [] }

/-- 'tocsinlaw11.CountsOnce': WHATEVER THE INPUT: true; the input reads as it did. -/
def countsOnceSpec : ChangeSpec := { name := "countsOnce", fn := fun _ => fun
  | [d1, d2] => { results := [.lit (.bool true)], args := [d1, d2] }
  | _ => none }
def countsOnceRow : OpenClaim := { program := "ytkfnjmkajhfhlaa", sum := "5fc0833108d8f7ca365c52a2632b47da582e6b5d2f15aa0a8dff8010a145f72d", func := "tocsin/tocsinlaw11.CountsOnce", spec := "countsOnce", apart := false }
def CountsOnceSaid : Prop := countsOnceRow.holds Try.pinned (OpenSpec.ofChange countsOnceSpec)

/-- ITS FALSE NEIGHBOUR: 'it returns false'. Refute it at one input. -/
def countsOnceWrong : ChangeSpec := { name := "countsOnce", fn := fun _ => fun
  | [d1, d2] => { results := [.lit (.bool false)], args := [d1, d2] }
  | _ => none }
def CountsOnceWrongFalsely : Prop := countsOnceRow.holds Try.pinned (OpenSpec.ofChange countsOnceWrong)

/-- 'tocsinlaw11.CountsCaps': WHATEVER THE INPUT: true; the input reads as it did. -/
def countsCapsSpec : ChangeSpec := { name := "countsCaps", fn := fun _ => fun
  | [d1, d2] => { results := [.lit (.bool true)], args := [d1, d2] }
  | _ => none }
def countsCapsRow : OpenClaim := { program := "ytkfnjmkajhfhlaa", sum := "5fc0833108d8f7ca365c52a2632b47da582e6b5d2f15aa0a8dff8010a145f72d", func := "tocsin/tocsinlaw11.CountsCaps", spec := "countsCaps", apart := false }
def CountsCapsSaid : Prop := countsCapsRow.holds Try.pinned (OpenSpec.ofChange countsCapsSpec)

/-- ITS FALSE NEIGHBOUR: 'it returns false'. Refute it at one input. -/
def countsCapsWrong : ChangeSpec := { name := "countsCaps", fn := fun _ => fun
  | [d1, d2] => { results := [.lit (.bool false)], args := [d1, d2] }
  | _ => none }
def CountsCapsWrongFalsely : Prop := countsCapsRow.holds Try.pinned (OpenSpec.ofChange countsCapsWrong)

/-- 'tocsinlaw11.CountsKnown': WHATEVER THE INPUT: true; the input reads as it did. -/
def countsKnownSpec : ChangeSpec := { name := "countsKnown", fn := fun _ => fun
  | [d] => { results := [.lit (.bool true)], args := [d] }
  | _ => none }
def countsKnownRow : OpenClaim := { program := "ytkfnjmkajhfhlaa", sum := "5fc0833108d8f7ca365c52a2632b47da582e6b5d2f15aa0a8dff8010a145f72d", func := "tocsin/tocsinlaw11.CountsKnown", spec := "countsKnown", apart := false }
def CountsKnownSaid : Prop := countsKnownRow.holds Try.pinned (OpenSpec.ofChange countsKnownSpec)

/-- ITS FALSE NEIGHBOUR: 'it returns false'. Refute it at one input. -/
def countsKnownWrong : ChangeSpec := { name := "countsKnown", fn := fun _ => fun
  | [d] => { results := [.lit (.bool false)], args := [d] }
  | _ => none }
def CountsKnownWrongFalsely : Prop := countsKnownRow.holds Try.pinned (OpenSpec.ofChange countsKnownWrong)

/- THE SECOND FORM. 'bulk': how many values and letters a reading holds, each counted each time it is reached (what is shared counts as often as it is met; a slice's spare places count too). A statement '..UptoSaid' is the law's where the arguments, and the package variables that the reading takes, are together of bulk at most 1048576: NARROWER than '..Said'. Prove '..Said' where nothing that the law and all that it calls make is longer than what came in: it says more and counts as full. Else prove '..UptoSaid'. A law counts once. -/
mutual
def uptoBulk {H : Type} : DataW H → Nat
  | .lit (.string bytes) => bytes.length + 1
  | .lit _ => 1
  | .nil => 1
  | .ptr d => uptoBulk d + 1
  | .slice elems spare => uptoBulkAll elems + uptoBulkAll spare + 1
  | .agg parts => uptoBulkAll parts + 1
  | .iface _ d => uptoBulk d + 1
  | .map entries => uptoBulkEntries entries + 1
  | .held _ => 1
def uptoBulkAll {H : Type} : List (DataW H) → Nat
  | [] => 0
  | d :: r => uptoBulk d + uptoBulkAll r
def uptoBulkEntries {H : Type} : List (Lit × DataW H) → Nat
  | [] => 0
  | x :: r => uptoBulkEntry x + uptoBulkEntries r
def uptoBulkEntry {H : Type} : Lit × DataW H → Nat
  | (.string bytes, d) => bytes.length + uptoBulk d + 1
  | (_, d) => uptoBulk d + 1
 end
def uptoSmall : (H : Type) → List (DataW H) → Bool := fun _ ds => decide (uptoBulkAll ds ≤ 1048576)
def OpenSpec.upto (s : _root_.Go.ChangeSpec) : _root_.Go.OpenSpec := { _root_.Go.OpenSpec.ofChange s with cond := some uptoSmall }

/-- 'tocsinlaw11.CountsOnce', WHERE WHAT IT READS IS OF BULK AT MOST 1048576: true; the input reads as it did. -/
def countsOnceUptoRow : OpenClaim := { program := "ytkfnjmkajhfhlaa", sum := "5fc0833108d8f7ca365c52a2632b47da582e6b5d2f15aa0a8dff8010a145f72d", func := "tocsin/tocsinlaw11.CountsOnce", spec := "countsOnce", apart := false, narrowed := true }
def CountsOnceUptoSaid : Prop := countsOnceUptoRow.holds Try.pinned (OpenSpec.upto countsOnceSpec)

/-- 'tocsinlaw11.CountsCaps', WHERE WHAT IT READS IS OF BULK AT MOST 1048576: true; the input reads as it did. -/
def countsCapsUptoRow : OpenClaim := { program := "ytkfnjmkajhfhlaa", sum := "5fc0833108d8f7ca365c52a2632b47da582e6b5d2f15aa0a8dff8010a145f72d", func := "tocsin/tocsinlaw11.CountsCaps", spec := "countsCaps", apart := false, narrowed := true }
def CountsCapsUptoSaid : Prop := countsCapsUptoRow.holds Try.pinned (OpenSpec.upto countsCapsSpec)

/-- 'tocsinlaw11.CountsKnown', WHERE WHAT IT READS IS OF BULK AT MOST 1048576: true; the input reads as it did. -/
def countsKnownUptoRow : OpenClaim := { program := "ytkfnjmkajhfhlaa", sum := "5fc0833108d8f7ca365c52a2632b47da582e6b5d2f15aa0a8dff8010a145f72d", func := "tocsin/tocsinlaw11.CountsKnown", spec := "countsKnown", apart := false, narrowed := true }
def CountsKnownUptoSaid : Prop := countsKnownUptoRow.holds Try.pinned (OpenSpec.upto countsKnownSpec)

end Rows
end Go.Proofs.Ytkfnjmkajhfhlaa
