/-
  NARROWER THAN 'FOR EVERY INPUT', by the rows' own cells (each row's printed sentence says how): GlobCompiles: laid · GlobWhole: laid · GlobWithin: laid.
  DERIVED. THE GIVEN ROWS OF THIS SEAT. 3 by the template 'for every input the law returns true; each argument reads behind the call as it read before'; 0 by the template 'total and deterministic' (their statements: YtjfhpgafglmhdabDoorTotals.lean).
  GIVEN WITH THE SEED: the statements are not yours to turn. If you find one false, say at which input.
  Laid BY PROGRAM, IN A SANDBOX (cutbox-rows.mjs): the forced cells as the released guide's own fill.sh prints them over the translation 1d50f33afeebe287… (all of the seat's roots in one cut). By AI agents, Wed Nov 11 2026. No macro, syntax, notation, axiom, sorry.
-/
import Derived.Test.YtjfhpgafglmhdabDoorChecked
import GoSem.PinnedTables
import GoSem.Claim
import GoSem.ClaimJoined
import GoSem.ClaimMapViews
import Derived.JoinedTies
import Derived.KernelRfl
namespace Go.Proofs.YtjfhpgafglmhdabDoor
/- THE CELL 'sum', in the pinned program and in every row, IS THE sha256 OF THE DUMP (.gsa) THAT YtjfhpgafglmhdabDoorProg.lean LOADS. Nothing in Lean hashes anything: it is a label: what it is worth is what the hold of that sum in a sandbox is worth. -/
noncomputable def Tryd.pinned : Pinned := { name := "ytjfhpgafglmhdabdoor", sum := "1d50f33afeebe287af89b880460ac6b33e942d3210d39942d9c262b8ce679e6c", checked := Tryd.checked }
namespace Rows
def none {H : Type} : Left H := { results := [], args := [] }

/- WHAT THE LISTED PACKAGE-LEVEL VARIABLES READ AS WHEN THE CALL BEGINS. Each datum BY PROGRAM (the guide's laid-datum.mjs) off the statement by which the dump's own 'gosem.cut.vars' lays the variable. In a bare row this is a premise. The card (YtjfhpgafglmhdabDoorCards.lean) ties it to the program's text. -/
def laid_unicode_utf8_acceptRanges {H : Type} : DataW H := .agg [.agg [.lit (.int .u8 128), .lit (.int .u8 191)], .agg [.lit (.int .u8 160), .lit (.int .u8 191)], .agg [.lit (.int .u8 128), .lit (.int .u8 159)], .agg [.lit (.int .u8 144), .lit (.int .u8 191)], .agg [.lit (.int .u8 128), .lit (.int .u8 143)], .agg [.lit (.int .u8 0), .lit (.int .u8 0)], .agg [.lit (.int .u8 0), .lit (.int .u8 0)], .agg [.lit (.int .u8 0), .lit (.int .u8 0)], .agg [.lit (.int .u8 0), .lit (.int .u8 0)], .agg [.lit (.int .u8 0), .lit (.int .u8 0)], .agg [.lit (.int .u8 0), .lit (.int .u8 0)], .agg [.lit (.int .u8 0), .lit (.int .u8 0)], .agg [.lit (.int .u8 0), .lit (.int .u8 0)], .agg [.lit (.int .u8 0), .lit (.int .u8 0)], .agg [.lit (.int .u8 0), .lit (.int .u8 0)], .agg [.lit (.int .u8 0), .lit (.int .u8 0)]]
def laid_tocsin_sign_letterRows {H : Type} : DataW H := .agg [.agg [.lit (.int .i32 65), .lit (.int .i32 90), .lit (.int .i32 1), .lit (.int .i32 32)], .agg [.lit (.int .i32 192), .lit (.int .i32 214), .lit (.int .i32 1), .lit (.int .i32 32)], .agg [.lit (.int .i32 216), .lit (.int .i32 222), .lit (.int .i32 1), .lit (.int .i32 32)], .agg [.lit (.int .i32 256), .lit (.int .i32 302), .lit (.int .i32 2), .lit (.int .i32 1)], .agg [.lit (.int .i32 306), .lit (.int .i32 310), .lit (.int .i32 2), .lit (.int .i32 1)], .agg [.lit (.int .i32 313), .lit (.int .i32 327), .lit (.int .i32 2), .lit (.int .i32 1)], .agg [.lit (.int .i32 330), .lit (.int .i32 374), .lit (.int .i32 2), .lit (.int .i32 1)], .agg [.lit (.int .i32 376), .lit (.int .i32 376), .lit (.int .i32 1), .lit (.int .i32 (-121))], .agg [.lit (.int .i32 377), .lit (.int .i32 381), .lit (.int .i32 2), .lit (.int .i32 1)], .agg [.lit (.int .i32 902), .lit (.int .i32 902), .lit (.int .i32 1), .lit (.int .i32 38)], .agg [.lit (.int .i32 904), .lit (.int .i32 906), .lit (.int .i32 1), .lit (.int .i32 37)], .agg [.lit (.int .i32 908), .lit (.int .i32 908), .lit (.int .i32 1), .lit (.int .i32 64)], .agg [.lit (.int .i32 910), .lit (.int .i32 911), .lit (.int .i32 1), .lit (.int .i32 63)], .agg [.lit (.int .i32 913), .lit (.int .i32 929), .lit (.int .i32 1), .lit (.int .i32 32)], .agg [.lit (.int .i32 931), .lit (.int .i32 939), .lit (.int .i32 1), .lit (.int .i32 32)], .agg [.lit (.int .i32 962), .lit (.int .i32 962), .lit (.int .i32 1), .lit (.int .i32 1)], .agg [.lit (.int .i32 1024), .lit (.int .i32 1039), .lit (.int .i32 1), .lit (.int .i32 80)], .agg [.lit (.int .i32 1040), .lit (.int .i32 1071), .lit (.int .i32 1), .lit (.int .i32 32)], .agg [.lit (.int .i32 65313), .lit (.int .i32 65338), .lit (.int .i32 1), .lit (.int .i32 32)]]
/-- One of Go's own tables, pinned by name: the form's constant. -/
def laid_unicode_utf8_first : DataW Unit := Go.Pinned.utf8First

/-- 'tocsinlaw03.GlobCompiles': WHATEVER THE INPUT: true; the input reads as it did. -/
def globCompilesSpec : ChangeSpec := { name := "globCompiles", fn := fun _ => fun
  | [d] => { results := [.lit (.bool true)], args := [d] }
  | _ => none }
def globCompilesRow : OpenClaim := { program := "ytjfhpgafglmhdabdoor", sum := "1d50f33afeebe287af89b880460ac6b33e942d3210d39942d9c262b8ce679e6c", func := "tocsin/tocsinlaw03.GlobCompiles", spec := "globCompiles", inPlace := ["internal/abi.NoEscape", "internal/bytealg.MakeNoZero"], unfollowed := true, recurses := true, named := ["tocsin/sign.letterRows", "unicode/utf8.first", "unicode/utf8.acceptRanges"], apart := false, laid := [("unicode/utf8.acceptRanges", laid_unicode_utf8_acceptRanges), ("tocsin/sign.letterRows", laid_tocsin_sign_letterRows), ("unicode/utf8.first", laid_unicode_utf8_first)] }
def GlobCompilesSaid : Prop := globCompilesRow.holds Tryd.pinned (OpenSpec.ofChange globCompilesSpec)

/-- ITS FALSE NEIGHBOUR: 'it returns false'. Refute it at one input. -/
def globCompilesWrong : ChangeSpec := { name := "globCompiles", fn := fun _ => fun
  | [d] => { results := [.lit (.bool false)], args := [d] }
  | _ => none }
def GlobCompilesWrongFalsely : Prop := globCompilesRow.holds Tryd.pinned (OpenSpec.ofChange globCompilesWrong)

/-- 'tocsinlaw03.GlobWhole': WHATEVER THE INPUT: true; the input reads as it did. -/
def globWholeSpec : ChangeSpec := { name := "globWhole", fn := fun _ => fun
  | [d1, d2] => { results := [.lit (.bool true)], args := [d1, d2] }
  | _ => none }
def globWholeRow : OpenClaim := { program := "ytjfhpgafglmhdabdoor", sum := "1d50f33afeebe287af89b880460ac6b33e942d3210d39942d9c262b8ce679e6c", func := "tocsin/tocsinlaw03.GlobWhole", spec := "globWhole", inPlace := ["internal/abi.NoEscape", "internal/bytealg.MakeNoZero"], unfollowed := true, recurses := true, named := ["tocsin/sign.letterRows", "unicode/utf8.first", "unicode/utf8.acceptRanges"], apart := false, laid := [("unicode/utf8.acceptRanges", laid_unicode_utf8_acceptRanges), ("tocsin/sign.letterRows", laid_tocsin_sign_letterRows), ("unicode/utf8.first", laid_unicode_utf8_first)] }
def GlobWholeSaid : Prop := globWholeRow.holds Tryd.pinned (OpenSpec.ofChange globWholeSpec)

/-- ITS FALSE NEIGHBOUR: 'it returns false'. Refute it at one input. -/
def globWholeWrong : ChangeSpec := { name := "globWhole", fn := fun _ => fun
  | [d1, d2] => { results := [.lit (.bool false)], args := [d1, d2] }
  | _ => none }
def GlobWholeWrongFalsely : Prop := globWholeRow.holds Tryd.pinned (OpenSpec.ofChange globWholeWrong)

/-- 'tocsinlaw03.GlobWithin': WHATEVER THE INPUT: true; the input reads as it did. -/
def globWithinSpec : ChangeSpec := { name := "globWithin", fn := fun _ => fun
  | [d1, d2] => { results := [.lit (.bool true)], args := [d1, d2] }
  | _ => none }
def globWithinRow : OpenClaim := { program := "ytjfhpgafglmhdabdoor", sum := "1d50f33afeebe287af89b880460ac6b33e942d3210d39942d9c262b8ce679e6c", func := "tocsin/tocsinlaw03.GlobWithin", spec := "globWithin", inPlace := ["internal/abi.NoEscape", "internal/bytealg.MakeNoZero"], unfollowed := true, recurses := true, named := ["tocsin/sign.letterRows", "unicode/utf8.first", "unicode/utf8.acceptRanges"], apart := false, laid := [("unicode/utf8.acceptRanges", laid_unicode_utf8_acceptRanges), ("tocsin/sign.letterRows", laid_tocsin_sign_letterRows), ("unicode/utf8.first", laid_unicode_utf8_first)] }
def GlobWithinSaid : Prop := globWithinRow.holds Tryd.pinned (OpenSpec.ofChange globWithinSpec)

/-- ITS FALSE NEIGHBOUR: 'it returns false'. Refute it at one input. -/
def globWithinWrong : ChangeSpec := { name := "globWithin", fn := fun _ => fun
  | [d1, d2] => { results := [.lit (.bool false)], args := [d1, d2] }
  | _ => none }
def GlobWithinWrongFalsely : Prop := globWithinRow.holds Tryd.pinned (OpenSpec.ofChange globWithinWrong)

/- THE SECOND FORM. 'bulk': how many values and letters a reading holds, each counted each time it is reached (what is shared counts as often as it is met; a slice's spare places count too). A statement '..UptoSaid' is the law's where the arguments, and the package variables that the reading takes, are together of bulk at most 1048576: NARROWER than '..Said'. Prove '..Said' where nothing that the law and all that it calls make is longer than what came in: it says more and counts as full. Else prove '..UptoSaid'. A law counts once. -/
mutual
def uptoBulk {H : Type} : DataW H → Nat
  | .lit (.string bytes) => bytes.length + 1
  | .lit _ => 1
  | .nil => 1
  | .ptr d => uptoBulk d + 1
  | .slice elems spare => uptoBulkAll elems + uptoBulkAll spare + 1
  | .agg parts => uptoBulkAll parts + 1
  | .iface _ d => uptoBulk d + 1
  | .map entries => uptoBulkEntries entries + 1
  | .held _ => 1
def uptoBulkAll {H : Type} : List (DataW H) → Nat
  | [] => 0
  | d :: r => uptoBulk d + uptoBulkAll r
def uptoBulkEntries {H : Type} : List (Lit × DataW H) → Nat
  | [] => 0
  | x :: r => uptoBulkEntry x + uptoBulkEntries r
def uptoBulkEntry {H : Type} : Lit × DataW H → Nat
  | (.string bytes, d) => bytes.length + uptoBulk d + 1
  | (_, d) => uptoBulk d + 1
 end
def uptoSmall : (H : Type) → List (DataW H) → Bool := fun _ ds => decide (uptoBulkAll ds ≤ 1048576)
def OpenSpec.upto (s : _root_.Go.ChangeSpec) : _root_.Go.OpenSpec := { _root_.Go.OpenSpec.ofChange s with cond := some uptoSmall }

/-- 'tocsinlaw03.GlobCompiles', WHERE WHAT IT READS IS OF BULK AT MOST 1048576: true; the input reads as it did. -/
def globCompilesUptoRow : OpenClaim := { program := "ytjfhpgafglmhdabdoor", sum := "1d50f33afeebe287af89b880460ac6b33e942d3210d39942d9c262b8ce679e6c", func := "tocsin/tocsinlaw03.GlobCompiles", spec := "globCompiles", inPlace := ["internal/abi.NoEscape", "internal/bytealg.MakeNoZero"], unfollowed := true, recurses := true, named := ["tocsin/sign.letterRows", "unicode/utf8.first", "unicode/utf8.acceptRanges"], apart := false, laid := [("unicode/utf8.acceptRanges", laid_unicode_utf8_acceptRanges), ("tocsin/sign.letterRows", laid_tocsin_sign_letterRows), ("unicode/utf8.first", laid_unicode_utf8_first)], narrowed := true }
def GlobCompilesUptoSaid : Prop := globCompilesUptoRow.holds Tryd.pinned (OpenSpec.upto globCompilesSpec)

/-- 'tocsinlaw03.GlobWhole', WHERE WHAT IT READS IS OF BULK AT MOST 1048576: true; the input reads as it did. -/
def globWholeUptoRow : OpenClaim := { program := "ytjfhpgafglmhdabdoor", sum := "1d50f33afeebe287af89b880460ac6b33e942d3210d39942d9c262b8ce679e6c", func := "tocsin/tocsinlaw03.GlobWhole", spec := "globWhole", inPlace := ["internal/abi.NoEscape", "internal/bytealg.MakeNoZero"], unfollowed := true, recurses := true, named := ["tocsin/sign.letterRows", "unicode/utf8.first", "unicode/utf8.acceptRanges"], apart := false, laid := [("unicode/utf8.acceptRanges", laid_unicode_utf8_acceptRanges), ("tocsin/sign.letterRows", laid_tocsin_sign_letterRows), ("unicode/utf8.first", laid_unicode_utf8_first)], narrowed := true }
def GlobWholeUptoSaid : Prop := globWholeUptoRow.holds Tryd.pinned (OpenSpec.upto globWholeSpec)

/-- 'tocsinlaw03.GlobWithin', WHERE WHAT IT READS IS OF BULK AT MOST 1048576: true; the input reads as it did. -/
def globWithinUptoRow : OpenClaim := { program := "ytjfhpgafglmhdabdoor", sum := "1d50f33afeebe287af89b880460ac6b33e942d3210d39942d9c262b8ce679e6c", func := "tocsin/tocsinlaw03.GlobWithin", spec := "globWithin", inPlace := ["internal/abi.NoEscape", "internal/bytealg.MakeNoZero"], unfollowed := true, recurses := true, named := ["tocsin/sign.letterRows", "unicode/utf8.first", "unicode/utf8.acceptRanges"], apart := false, laid := [("unicode/utf8.acceptRanges", laid_unicode_utf8_acceptRanges), ("tocsin/sign.letterRows", laid_tocsin_sign_letterRows), ("unicode/utf8.first", laid_unicode_utf8_first)], narrowed := true }
def GlobWithinUptoSaid : Prop := globWithinUptoRow.holds Tryd.pinned (OpenSpec.upto globWithinSpec)

end Rows
end Go.Proofs.YtjfhpgafglmhdabDoor
