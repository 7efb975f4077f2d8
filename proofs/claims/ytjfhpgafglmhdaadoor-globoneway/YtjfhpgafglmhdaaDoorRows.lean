/-
  NARROWER THAN 'FOR EVERY INPUT', by the rows' own cells (each row's printed sentence says how): GlobQuotes: laid · GlobSplits: laid · GlobOnes: laid · GlobOneWay: laid · GlobFolds: laid · GlobEdges: laid.
  DERIVED. THE GIVEN ROWS OF THIS SEAT. 6 by the template 'for every input the law returns true; each argument reads behind the call as it read before'; 0 by the template 'total and deterministic' (their statements: YtjfhpgafglmhdaaDoorTotals.lean).
  GIVEN WITH THE SEED: the statements are not yours to turn. If you find one false, say at which input.
  Laid BY PROGRAM, IN A SANDBOX (cutbox-rows.mjs): the forced cells as the released guide's own fill.sh prints them over the translation 4879ec7625a9b55b… (all of the seat's roots in one cut). By AI agents, Wed Nov 11 2026. No macro, syntax, notation, axiom, sorry.
-/
import Derived.Test.YtjfhpgafglmhdaaDoorChecked
import GoSem.PinnedTables
import GoSem.Claim
import GoSem.ClaimJoined
import GoSem.ClaimMapViews
import Derived.JoinedTies
import Derived.KernelRfl
namespace Go.Proofs.YtjfhpgafglmhdaaDoor
/- THE CELL 'sum', in the pinned program and in every row, IS THE sha256 OF THE DUMP (.gsa) THAT YtjfhpgafglmhdaaDoorProg.lean LOADS. Nothing in Lean hashes anything: it is a label: what it is worth is what the hold of that sum in a sandbox is worth. -/
noncomputable def Tryd.pinned : Pinned := { name := "ytjfhpgafglmhdaadoor", sum := "4879ec7625a9b55b61c59ca60d22ac2e4b1a17d30fa15e6e33615fe92dd3c079", checked := Tryd.checked }
namespace Rows
def none {H : Type} : Left H := { results := [], args := [] }

/- WHAT THE LISTED PACKAGE-LEVEL VARIABLES READ AS WHEN THE CALL BEGINS. Each datum BY PROGRAM (the guide's laid-datum.mjs) off the statement by which the dump's own 'gosem.cut.vars' lays the variable. In a bare row this is a premise. The card (YtjfhpgafglmhdaaDoorCards.lean) ties it to the program's text. -/
def laid_unicode_utf8_acceptRanges {H : Type} : DataW H := .agg [.agg [.lit (.int .u8 128), .lit (.int .u8 191)], .agg [.lit (.int .u8 160), .lit (.int .u8 191)], .agg [.lit (.int .u8 128), .lit (.int .u8 159)], .agg [.lit (.int .u8 144), .lit (.int .u8 191)], .agg [.lit (.int .u8 128), .lit (.int .u8 143)], .agg [.lit (.int .u8 0), .lit (.int .u8 0)], .agg [.lit (.int .u8 0), .lit (.int .u8 0)], .agg [.lit (.int .u8 0), .lit (.int .u8 0)], .agg [.lit (.int .u8 0), .lit (.int .u8 0)], .agg [.lit (.int .u8 0), .lit (.int .u8 0)], .agg [.lit (.int .u8 0), .lit (.int .u8 0)], .agg [.lit (.int .u8 0), .lit (.int .u8 0)], .agg [.lit (.int .u8 0), .lit (.int .u8 0)], .agg [.lit (.int .u8 0), .lit (.int .u8 0)], .agg [.lit (.int .u8 0), .lit (.int .u8 0)], .agg [.lit (.int .u8 0), .lit (.int .u8 0)]]
def laid_tocsin_sign_letterRows {H : Type} : DataW H := .agg [.agg [.lit (.int .i32 65), .lit (.int .i32 90), .lit (.int .i32 1), .lit (.int .i32 32)], .agg [.lit (.int .i32 192), .lit (.int .i32 214), .lit (.int .i32 1), .lit (.int .i32 32)], .agg [.lit (.int .i32 216), .lit (.int .i32 222), .lit (.int .i32 1), .lit (.int .i32 32)], .agg [.lit (.int .i32 256), .lit (.int .i32 302), .lit (.int .i32 2), .lit (.int .i32 1)], .agg [.lit (.int .i32 306), .lit (.int .i32 310), .lit (.int .i32 2), .lit (.int .i32 1)], .agg [.lit (.int .i32 313), .lit (.int .i32 327), .lit (.int .i32 2), .lit (.int .i32 1)], .agg [.lit (.int .i32 330), .lit (.int .i32 374), .lit (.int .i32 2), .lit (.int .i32 1)], .agg [.lit (.int .i32 376), .lit (.int .i32 376), .lit (.int .i32 1), .lit (.int .i32 (-121))], .agg [.lit (.int .i32 377), .lit (.int .i32 381), .lit (.int .i32 2), .lit (.int .i32 1)], .agg [.lit (.int .i32 902), .lit (.int .i32 902), .lit (.int .i32 1), .lit (.int .i32 38)], .agg [.lit (.int .i32 904), .lit (.int .i32 906), .lit (.int .i32 1), .lit (.int .i32 37)], .agg [.lit (.int .i32 908), .lit (.int .i32 908), .lit (.int .i32 1), .lit (.int .i32 64)], .agg [.lit (.int .i32 910), .lit (.int .i32 911), .lit (.int .i32 1), .lit (.int .i32 63)], .agg [.lit (.int .i32 913), .lit (.int .i32 929), .lit (.int .i32 1), .lit (.int .i32 32)], .agg [.lit (.int .i32 931), .lit (.int .i32 939), .lit (.int .i32 1), .lit (.int .i32 32)], .agg [.lit (.int .i32 962), .lit (.int .i32 962), .lit (.int .i32 1), .lit (.int .i32 1)], .agg [.lit (.int .i32 1024), .lit (.int .i32 1039), .lit (.int .i32 1), .lit (.int .i32 80)], .agg [.lit (.int .i32 1040), .lit (.int .i32 1071), .lit (.int .i32 1), .lit (.int .i32 32)], .agg [.lit (.int .i32 65313), .lit (.int .i32 65338), .lit (.int .i32 1), .lit (.int .i32 32)]]
/-- One of Go's own tables, pinned by name: the form's constant. -/
def laid_unicode_utf8_first : DataW Unit := Go.Pinned.utf8First

/-- 'tocsinlaw03.GlobQuotes': WHATEVER THE INPUT: true; the input reads as it did. -/
def globQuotesSpec : ChangeSpec := { name := "globQuotes", fn := fun _ => fun
  | [d1, d2] => { results := [.lit (.bool true)], args := [d1, d2] }
  | _ => none }
def globQuotesRow : OpenClaim := { program := "ytjfhpgafglmhdaadoor", sum := "4879ec7625a9b55b61c59ca60d22ac2e4b1a17d30fa15e6e33615fe92dd3c079", func := "tocsin/tocsinlaw03.GlobQuotes", spec := "globQuotes", inPlace := ["internal/abi.NoEscape", "internal/bytealg.MakeNoZero"], unfollowed := true, recurses := true, named := ["tocsin/sign.letterRows", "unicode/utf8.first", "unicode/utf8.acceptRanges"], apart := false, laid := [("unicode/utf8.acceptRanges", laid_unicode_utf8_acceptRanges), ("tocsin/sign.letterRows", laid_tocsin_sign_letterRows), ("unicode/utf8.first", laid_unicode_utf8_first)] }
def GlobQuotesSaid : Prop := globQuotesRow.holds Tryd.pinned (OpenSpec.ofChange globQuotesSpec)

/-- ITS FALSE NEIGHBOUR: 'it returns false'. Refute it at one input. -/
def globQuotesWrong : ChangeSpec := { name := "globQuotes", fn := fun _ => fun
  | [d1, d2] => { results := [.lit (.bool false)], args := [d1, d2] }
  | _ => none }
def GlobQuotesWrongFalsely : Prop := globQuotesRow.holds Tryd.pinned (OpenSpec.ofChange globQuotesWrong)

/-- 'tocsinlaw03.GlobSplits': WHATEVER THE INPUT: true; the input reads as it did. -/
def globSplitsSpec : ChangeSpec := { name := "globSplits", fn := fun _ => fun
  | [d1, d2, d3, d4, d5] => { results := [.lit (.bool true)], args := [d1, d2, d3, d4, d5] }
  | _ => none }
def globSplitsRow : OpenClaim := { program := "ytjfhpgafglmhdaadoor", sum := "4879ec7625a9b55b61c59ca60d22ac2e4b1a17d30fa15e6e33615fe92dd3c079", func := "tocsin/tocsinlaw03.GlobSplits", spec := "globSplits", inPlace := ["internal/abi.NoEscape", "internal/bytealg.MakeNoZero"], unfollowed := true, recurses := true, named := ["tocsin/sign.letterRows", "unicode/utf8.first", "unicode/utf8.acceptRanges"], apart := false, laid := [("unicode/utf8.acceptRanges", laid_unicode_utf8_acceptRanges), ("tocsin/sign.letterRows", laid_tocsin_sign_letterRows), ("unicode/utf8.first", laid_unicode_utf8_first)] }
def GlobSplitsSaid : Prop := globSplitsRow.holds Tryd.pinned (OpenSpec.ofChange globSplitsSpec)

/-- ITS FALSE NEIGHBOUR: 'it returns false'. Refute it at one input. -/
def globSplitsWrong : ChangeSpec := { name := "globSplits", fn := fun _ => fun
  | [d1, d2, d3, d4, d5] => { results := [.lit (.bool false)], args := [d1, d2, d3, d4, d5] }
  | _ => none }
def GlobSplitsWrongFalsely : Prop := globSplitsRow.holds Tryd.pinned (OpenSpec.ofChange globSplitsWrong)

/-- 'tocsinlaw03.GlobOnes': WHATEVER THE INPUT: true; the input reads as it did. -/
def globOnesSpec : ChangeSpec := { name := "globOnes", fn := fun _ => fun
  | [d1, d2] => { results := [.lit (.bool true)], args := [d1, d2] }
  | _ => none }
def globOnesRow : OpenClaim := { program := "ytjfhpgafglmhdaadoor", sum := "4879ec7625a9b55b61c59ca60d22ac2e4b1a17d30fa15e6e33615fe92dd3c079", func := "tocsin/tocsinlaw03.GlobOnes", spec := "globOnes", inPlace := ["internal/abi.NoEscape", "internal/bytealg.MakeNoZero"], unfollowed := true, recurses := true, named := ["tocsin/sign.letterRows", "unicode/utf8.first", "unicode/utf8.acceptRanges"], apart := false, laid := [("unicode/utf8.acceptRanges", laid_unicode_utf8_acceptRanges), ("tocsin/sign.letterRows", laid_tocsin_sign_letterRows), ("unicode/utf8.first", laid_unicode_utf8_first)] }
def GlobOnesSaid : Prop := globOnesRow.holds Tryd.pinned (OpenSpec.ofChange globOnesSpec)

/-- ITS FALSE NEIGHBOUR: 'it returns false'. Refute it at one input. -/
def globOnesWrong : ChangeSpec := { name := "globOnes", fn := fun _ => fun
  | [d1, d2] => { results := [.lit (.bool false)], args := [d1, d2] }
  | _ => none }
def GlobOnesWrongFalsely : Prop := globOnesRow.holds Tryd.pinned (OpenSpec.ofChange globOnesWrong)

/-- 'tocsinlaw03.GlobOneWay': WHATEVER THE INPUT: true; the input reads as it did. -/
def globOneWaySpec : ChangeSpec := { name := "globOneWay", fn := fun _ => fun
  | [d1, d2] => { results := [.lit (.bool true)], args := [d1, d2] }
  | _ => none }
def globOneWayRow : OpenClaim := { program := "ytjfhpgafglmhdaadoor", sum := "4879ec7625a9b55b61c59ca60d22ac2e4b1a17d30fa15e6e33615fe92dd3c079", func := "tocsin/tocsinlaw03.GlobOneWay", spec := "globOneWay", inPlace := ["internal/abi.NoEscape", "internal/bytealg.MakeNoZero"], unfollowed := true, recurses := true, named := ["tocsin/sign.letterRows", "unicode/utf8.first", "unicode/utf8.acceptRanges"], apart := false, laid := [("unicode/utf8.acceptRanges", laid_unicode_utf8_acceptRanges), ("tocsin/sign.letterRows", laid_tocsin_sign_letterRows), ("unicode/utf8.first", laid_unicode_utf8_first)] }
def GlobOneWaySaid : Prop := globOneWayRow.holds Tryd.pinned (OpenSpec.ofChange globOneWaySpec)

/-- ITS FALSE NEIGHBOUR: 'it returns false'. Refute it at one input. -/
def globOneWayWrong : ChangeSpec := { name := "globOneWay", fn := fun _ => fun
  | [d1, d2] => { results := [.lit (.bool false)], args := [d1, d2] }
  | _ => none }
def GlobOneWayWrongFalsely : Prop := globOneWayRow.holds Tryd.pinned (OpenSpec.ofChange globOneWayWrong)

/-- 'tocsinlaw03.GlobFolds': WHATEVER THE INPUT: true; the input reads as it did. -/
def globFoldsSpec : ChangeSpec := { name := "globFolds", fn := fun _ => fun
  | [d1, d2] => { results := [.lit (.bool true)], args := [d1, d2] }
  | _ => none }
def globFoldsRow : OpenClaim := { program := "ytjfhpgafglmhdaadoor", sum := "4879ec7625a9b55b61c59ca60d22ac2e4b1a17d30fa15e6e33615fe92dd3c079", func := "tocsin/tocsinlaw03.GlobFolds", spec := "globFolds", inPlace := ["internal/abi.NoEscape", "internal/bytealg.MakeNoZero"], unfollowed := true, recurses := true, named := ["tocsin/sign.letterRows", "unicode/utf8.first", "unicode/utf8.acceptRanges"], apart := false, laid := [("unicode/utf8.acceptRanges", laid_unicode_utf8_acceptRanges), ("tocsin/sign.letterRows", laid_tocsin_sign_letterRows), ("unicode/utf8.first", laid_unicode_utf8_first)] }
def GlobFoldsSaid : Prop := globFoldsRow.holds Tryd.pinned (OpenSpec.ofChange globFoldsSpec)

/-- ITS FALSE NEIGHBOUR: 'it returns false'. Refute it at one input. -/
def globFoldsWrong : ChangeSpec := { name := "globFolds", fn := fun _ => fun
  | [d1, d2] => { results := [.lit (.bool false)], args := [d1, d2] }
  | _ => none }
def GlobFoldsWrongFalsely : Prop := globFoldsRow.holds Tryd.pinned (OpenSpec.ofChange globFoldsWrong)

/-- 'tocsinlaw03.GlobEdges': WHATEVER THE INPUT: true; the input reads as it did. -/
def globEdgesSpec : ChangeSpec := { name := "globEdges", fn := fun _ => fun
  | [d1, d2] => { results := [.lit (.bool true)], args := [d1, d2] }
  | _ => none }
def globEdgesRow : OpenClaim := { program := "ytjfhpgafglmhdaadoor", sum := "4879ec7625a9b55b61c59ca60d22ac2e4b1a17d30fa15e6e33615fe92dd3c079", func := "tocsin/tocsinlaw03.GlobEdges", spec := "globEdges", inPlace := ["internal/abi.NoEscape", "internal/bytealg.MakeNoZero"], unfollowed := true, recurses := true, named := ["tocsin/sign.letterRows", "unicode/utf8.first", "unicode/utf8.acceptRanges"], apart := false, laid := [("unicode/utf8.acceptRanges", laid_unicode_utf8_acceptRanges), ("tocsin/sign.letterRows", laid_tocsin_sign_letterRows), ("unicode/utf8.first", laid_unicode_utf8_first)] }
def GlobEdgesSaid : Prop := globEdgesRow.holds Tryd.pinned (OpenSpec.ofChange globEdgesSpec)

/-- ITS FALSE NEIGHBOUR: 'it returns false'. Refute it at one input. -/
def globEdgesWrong : ChangeSpec := { name := "globEdges", fn := fun _ => fun
  | [d1, d2] => { results := [.lit (.bool false)], args := [d1, d2] }
  | _ => none }
def GlobEdgesWrongFalsely : Prop := globEdgesRow.holds Tryd.pinned (OpenSpec.ofChange globEdgesWrong)

/- THE SECOND FORM. 'bulk': how many values and letters a reading holds, each counted each time it is reached (what is shared counts as often as it is met; a slice's spare places count too). A statement '..UptoSaid' is the law's where the arguments, and the package variables that the reading takes, are together of bulk at most 1048576: NARROWER than '..Said'. Prove '..Said' where nothing that the law and all that it calls make is longer than what came in: it says more and counts as full. Else prove '..UptoSaid'. A law counts once. -/
mutual
def uptoBulk {H : Type} : DataW H → Nat
  | .lit (.string bytes) => bytes.length + 1
  | .lit _ => 1
  | .nil => 1
  | .ptr d => uptoBulk d + 1
  | .slice elems spare => uptoBulkAll elems + uptoBulkAll spare + 1
  | .agg parts => uptoBulkAll parts + 1
  | .iface _ d => uptoBulk d + 1
  | .map entries => uptoBulkEntries entries + 1
  | .held _ => 1
def uptoBulkAll {H : Type} : List (DataW H) → Nat
  | [] => 0
  | d :: r => uptoBulk d + uptoBulkAll r
def uptoBulkEntries {H : Type} : List (Lit × DataW H) → Nat
  | [] => 0
  | x :: r => uptoBulkEntry x + uptoBulkEntries r
def uptoBulkEntry {H : Type} : Lit × DataW H → Nat
  | (.string bytes, d) => bytes.length + uptoBulk d + 1
  | (_, d) => uptoBulk d + 1
 end
def uptoSmall : (H : Type) → List (DataW H) → Bool := fun _ ds => decide (uptoBulkAll ds ≤ 1048576)
def OpenSpec.upto (s : _root_.Go.ChangeSpec) : _root_.Go.OpenSpec := { _root_.Go.OpenSpec.ofChange s with cond := some uptoSmall }

/-- 'tocsinlaw03.GlobQuotes', WHERE WHAT IT READS IS OF BULK AT MOST 1048576: true; the input reads as it did. -/
def globQuotesUptoRow : OpenClaim := { program := "ytjfhpgafglmhdaadoor", sum := "4879ec7625a9b55b61c59ca60d22ac2e4b1a17d30fa15e6e33615fe92dd3c079", func := "tocsin/tocsinlaw03.GlobQuotes", spec := "globQuotes", inPlace := ["internal/abi.NoEscape", "internal/bytealg.MakeNoZero"], unfollowed := true, recurses := true, named := ["tocsin/sign.letterRows", "unicode/utf8.first", "unicode/utf8.acceptRanges"], apart := false, laid := [("unicode/utf8.acceptRanges", laid_unicode_utf8_acceptRanges), ("tocsin/sign.letterRows", laid_tocsin_sign_letterRows), ("unicode/utf8.first", laid_unicode_utf8_first)], narrowed := true }
def GlobQuotesUptoSaid : Prop := globQuotesUptoRow.holds Tryd.pinned (OpenSpec.upto globQuotesSpec)

/-- 'tocsinlaw03.GlobSplits', WHERE WHAT IT READS IS OF BULK AT MOST 1048576: true; the input reads as it did. -/
def globSplitsUptoRow : OpenClaim := { program := "ytjfhpgafglmhdaadoor", sum := "4879ec7625a9b55b61c59ca60d22ac2e4b1a17d30fa15e6e33615fe92dd3c079", func := "tocsin/tocsinlaw03.GlobSplits", spec := "globSplits", inPlace := ["internal/abi.NoEscape", "internal/bytealg.MakeNoZero"], unfollowed := true, recurses := true, named := ["tocsin/sign.letterRows", "unicode/utf8.first", "unicode/utf8.acceptRanges"], apart := false, laid := [("unicode/utf8.acceptRanges", laid_unicode_utf8_acceptRanges), ("tocsin/sign.letterRows", laid_tocsin_sign_letterRows), ("unicode/utf8.first", laid_unicode_utf8_first)], narrowed := true }
def GlobSplitsUptoSaid : Prop := globSplitsUptoRow.holds Tryd.pinned (OpenSpec.upto globSplitsSpec)

/-- 'tocsinlaw03.GlobOnes', WHERE WHAT IT READS IS OF BULK AT MOST 1048576: true; the input reads as it did. -/
def globOnesUptoRow : OpenClaim := { program := "ytjfhpgafglmhdaadoor", sum := "4879ec7625a9b55b61c59ca60d22ac2e4b1a17d30fa15e6e33615fe92dd3c079", func := "tocsin/tocsinlaw03.GlobOnes", spec := "globOnes", inPlace := ["internal/abi.NoEscape", "internal/bytealg.MakeNoZero"], unfollowed := true, recurses := true, named := ["tocsin/sign.letterRows", "unicode/utf8.first", "unicode/utf8.acceptRanges"], apart := false, laid := [("unicode/utf8.acceptRanges", laid_unicode_utf8_acceptRanges), ("tocsin/sign.letterRows", laid_tocsin_sign_letterRows), ("unicode/utf8.first", laid_unicode_utf8_first)], narrowed := true }
def GlobOnesUptoSaid : Prop := globOnesUptoRow.holds Tryd.pinned (OpenSpec.upto globOnesSpec)

/-- 'tocsinlaw03.GlobOneWay', WHERE WHAT IT READS IS OF BULK AT MOST 1048576: true; the input reads as it did. -/
def globOneWayUptoRow : OpenClaim := { program := "ytjfhpgafglmhdaadoor", sum := "4879ec7625a9b55b61c59ca60d22ac2e4b1a17d30fa15e6e33615fe92dd3c079", func := "tocsin/tocsinlaw03.GlobOneWay", spec := "globOneWay", inPlace := ["internal/abi.NoEscape", "internal/bytealg.MakeNoZero"], unfollowed := true, recurses := true, named := ["tocsin/sign.letterRows", "unicode/utf8.first", "unicode/utf8.acceptRanges"], apart := false, laid := [("unicode/utf8.acceptRanges", laid_unicode_utf8_acceptRanges), ("tocsin/sign.letterRows", laid_tocsin_sign_letterRows), ("unicode/utf8.first", laid_unicode_utf8_first)], narrowed := true }
def GlobOneWayUptoSaid : Prop := globOneWayUptoRow.holds Tryd.pinned (OpenSpec.upto globOneWaySpec)

/-- 'tocsinlaw03.GlobFolds', WHERE WHAT IT READS IS OF BULK AT MOST 1048576: true; the input reads as it did. -/
def globFoldsUptoRow : OpenClaim := { program := "ytjfhpgafglmhdaadoor", sum := "4879ec7625a9b55b61c59ca60d22ac2e4b1a17d30fa15e6e33615fe92dd3c079", func := "tocsin/tocsinlaw03.GlobFolds", spec := "globFolds", inPlace := ["internal/abi.NoEscape", "internal/bytealg.MakeNoZero"], unfollowed := true, recurses := true, named := ["tocsin/sign.letterRows", "unicode/utf8.first", "unicode/utf8.acceptRanges"], apart := false, laid := [("unicode/utf8.acceptRanges", laid_unicode_utf8_acceptRanges), ("tocsin/sign.letterRows", laid_tocsin_sign_letterRows), ("unicode/utf8.first", laid_unicode_utf8_first)], narrowed := true }
def GlobFoldsUptoSaid : Prop := globFoldsUptoRow.holds Tryd.pinned (OpenSpec.upto globFoldsSpec)

/-- 'tocsinlaw03.GlobEdges', WHERE WHAT IT READS IS OF BULK AT MOST 1048576: true; the input reads as it did. -/
def globEdgesUptoRow : OpenClaim := { program := "ytjfhpgafglmhdaadoor", sum := "4879ec7625a9b55b61c59ca60d22ac2e4b1a17d30fa15e6e33615fe92dd3c079", func := "tocsin/tocsinlaw03.GlobEdges", spec := "globEdges", inPlace := ["internal/abi.NoEscape", "internal/bytealg.MakeNoZero"], unfollowed := true, recurses := true, named := ["tocsin/sign.letterRows", "unicode/utf8.first", "unicode/utf8.acceptRanges"], apart := false, laid := [("unicode/utf8.acceptRanges", laid_unicode_utf8_acceptRanges), ("tocsin/sign.letterRows", laid_tocsin_sign_letterRows), ("unicode/utf8.first", laid_unicode_utf8_first)], narrowed := true }
def GlobEdgesUptoSaid : Prop := globEdgesUptoRow.holds Tryd.pinned (OpenSpec.upto globEdgesSpec)

end Rows
end Go.Proofs.YtjfhpgafglmhdaaDoor
