/-
  NARROWER THAN 'FOR EVERY INPUT', by the rows' own cells (each row's printed sentence says how): SignKeeps: laid · SignParts: laid · SignFinds: laid · SignIsWord: laid · SignWords: laid · SignEdges: laid.
  DERIVED. THE GIVEN ROWS OF THIS SEAT. 6 by the template 'for every input the law returns true; each argument reads behind the call as it read before'; 0 by the template 'total and deterministic' (their statements: YtaigcmlalnegpaaDoorTotals.lean).
  GIVEN WITH THE SEED: the statements are not yours to turn. If you find one false, say at which input.
  Laid BY PROGRAM, IN A SANDBOX (cutbox-rows.mjs): the forced cells as the released guide's own fill.sh prints them over the translation b41055fd6963b78d… (all of the seat's roots in one cut). By AI agents, Wed Nov 11 2026. No macro, syntax, notation, axiom, sorry.
-/
import Derived.Test.YtaigcmlalnegpaaDoorChecked
import GoSem.PinnedTables
import GoSem.Claim
import GoSem.ClaimJoined
import GoSem.ClaimMapViews
import Derived.JoinedTies
import Derived.KernelRfl
namespace Go.Proofs.YtaigcmlalnegpaaDoor
/- THE CELL 'sum', in the pinned program and in every row, IS THE sha256 OF THE DUMP (.gsa) THAT YtaigcmlalnegpaaDoorProg.lean LOADS. Nothing in Lean hashes anything: it is a label: what it is worth is what the hold of that sum in a sandbox is worth. -/
noncomputable def Tryd.pinned : Pinned := { name := "ytaigcmlalnegpaadoor", sum := "b41055fd6963b78da1c9859d704c87a0472a7d8c730ea243b579d9d333db8ff1", checked := Tryd.checked }
namespace Rows
def none {H : Type} : Left H := { results := [], args := [] }

/- WHAT THE LISTED PACKAGE-LEVEL VARIABLES READ AS WHEN THE CALL BEGINS. Each datum BY PROGRAM (the guide's laid-datum.mjs) off the statement by which the dump's own 'gosem.cut.vars' lays the variable. In a bare row this is a premise. The card (YtaigcmlalnegpaaDoorCards.lean) ties it to the program's text. -/
def laid_unicode_utf8_acceptRanges {H : Type} : DataW H := .agg [.agg [.lit (.int .u8 128), .lit (.int .u8 191)], .agg [.lit (.int .u8 160), .lit (.int .u8 191)], .agg [.lit (.int .u8 128), .lit (.int .u8 159)], .agg [.lit (.int .u8 144), .lit (.int .u8 191)], .agg [.lit (.int .u8 128), .lit (.int .u8 143)], .agg [.lit (.int .u8 0), .lit (.int .u8 0)], .agg [.lit (.int .u8 0), .lit (.int .u8 0)], .agg [.lit (.int .u8 0), .lit (.int .u8 0)], .agg [.lit (.int .u8 0), .lit (.int .u8 0)], .agg [.lit (.int .u8 0), .lit (.int .u8 0)], .agg [.lit (.int .u8 0), .lit (.int .u8 0)], .agg [.lit (.int .u8 0), .lit (.int .u8 0)], .agg [.lit (.int .u8 0), .lit (.int .u8 0)], .agg [.lit (.int .u8 0), .lit (.int .u8 0)], .agg [.lit (.int .u8 0), .lit (.int .u8 0)], .agg [.lit (.int .u8 0), .lit (.int .u8 0)]]
def laid_tocsin_sign_letterRows {H : Type} : DataW H := .agg [.agg [.lit (.int .i32 65), .lit (.int .i32 90), .lit (.int .i32 1), .lit (.int .i32 32)], .agg [.lit (.int .i32 192), .lit (.int .i32 214), .lit (.int .i32 1), .lit (.int .i32 32)], .agg [.lit (.int .i32 216), .lit (.int .i32 222), .lit (.int .i32 1), .lit (.int .i32 32)], .agg [.lit (.int .i32 256), .lit (.int .i32 302), .lit (.int .i32 2), .lit (.int .i32 1)], .agg [.lit (.int .i32 306), .lit (.int .i32 310), .lit (.int .i32 2), .lit (.int .i32 1)], .agg [.lit (.int .i32 313), .lit (.int .i32 327), .lit (.int .i32 2), .lit (.int .i32 1)], .agg [.lit (.int .i32 330), .lit (.int .i32 374), .lit (.int .i32 2), .lit (.int .i32 1)], .agg [.lit (.int .i32 376), .lit (.int .i32 376), .lit (.int .i32 1), .lit (.int .i32 (-121))], .agg [.lit (.int .i32 377), .lit (.int .i32 381), .lit (.int .i32 2), .lit (.int .i32 1)], .agg [.lit (.int .i32 902), .lit (.int .i32 902), .lit (.int .i32 1), .lit (.int .i32 38)], .agg [.lit (.int .i32 904), .lit (.int .i32 906), .lit (.int .i32 1), .lit (.int .i32 37)], .agg [.lit (.int .i32 908), .lit (.int .i32 908), .lit (.int .i32 1), .lit (.int .i32 64)], .agg [.lit (.int .i32 910), .lit (.int .i32 911), .lit (.int .i32 1), .lit (.int .i32 63)], .agg [.lit (.int .i32 913), .lit (.int .i32 929), .lit (.int .i32 1), .lit (.int .i32 32)], .agg [.lit (.int .i32 931), .lit (.int .i32 939), .lit (.int .i32 1), .lit (.int .i32 32)], .agg [.lit (.int .i32 962), .lit (.int .i32 962), .lit (.int .i32 1), .lit (.int .i32 1)], .agg [.lit (.int .i32 1024), .lit (.int .i32 1039), .lit (.int .i32 1), .lit (.int .i32 80)], .agg [.lit (.int .i32 1040), .lit (.int .i32 1071), .lit (.int .i32 1), .lit (.int .i32 32)], .agg [.lit (.int .i32 65313), .lit (.int .i32 65338), .lit (.int .i32 1), .lit (.int .i32 32)]]
/-- One of Go's own tables, pinned by name: the form's constant. -/
def laid_unicode_utf8_first : DataW Unit := Go.Pinned.utf8First

/-- 'tocsinlaw01.SignKeeps': WHATEVER THE INPUT: true; the input reads as it did. -/
def signKeepsSpec : ChangeSpec := { name := "signKeeps", fn := fun _ => fun
  | [d1, d2] => { results := [.lit (.bool true)], args := [d1, d2] }
  | _ => none }
def signKeepsRow : OpenClaim := { program := "ytaigcmlalnegpaadoor", sum := "b41055fd6963b78da1c9859d704c87a0472a7d8c730ea243b579d9d333db8ff1", func := "tocsin/tocsinlaw01.SignKeeps", spec := "signKeeps", inPlace := ["internal/abi.NoEscape", "internal/bytealg.MakeNoZero"], unfollowed := true, recurses := true, named := ["tocsin/sign.letterRows", "unicode/utf8.first", "unicode/utf8.acceptRanges"], apart := false, laid := [("unicode/utf8.acceptRanges", laid_unicode_utf8_acceptRanges), ("tocsin/sign.letterRows", laid_tocsin_sign_letterRows), ("unicode/utf8.first", laid_unicode_utf8_first)] }
def SignKeepsSaid : Prop := signKeepsRow.holds Tryd.pinned (OpenSpec.ofChange signKeepsSpec)

/-- ITS FALSE NEIGHBOUR: 'it returns false'. Refute it at one input. -/
def signKeepsWrong : ChangeSpec := { name := "signKeeps", fn := fun _ => fun
  | [d1, d2] => { results := [.lit (.bool false)], args := [d1, d2] }
  | _ => none }
def SignKeepsWrongFalsely : Prop := signKeepsRow.holds Tryd.pinned (OpenSpec.ofChange signKeepsWrong)

/-- 'tocsinlaw01.SignParts': WHATEVER THE INPUT: true; the input reads as it did. -/
def signPartsSpec : ChangeSpec := { name := "signParts", fn := fun _ => fun
  | [d] => { results := [.lit (.bool true)], args := [d] }
  | _ => none }
def signPartsRow : OpenClaim := { program := "ytaigcmlalnegpaadoor", sum := "b41055fd6963b78da1c9859d704c87a0472a7d8c730ea243b579d9d333db8ff1", func := "tocsin/tocsinlaw01.SignParts", spec := "signParts", inPlace := ["internal/abi.NoEscape", "internal/bytealg.MakeNoZero"], unfollowed := true, recurses := true, named := ["tocsin/sign.letterRows", "unicode/utf8.first", "unicode/utf8.acceptRanges"], apart := false, laid := [("unicode/utf8.acceptRanges", laid_unicode_utf8_acceptRanges), ("tocsin/sign.letterRows", laid_tocsin_sign_letterRows), ("unicode/utf8.first", laid_unicode_utf8_first)] }
def SignPartsSaid : Prop := signPartsRow.holds Tryd.pinned (OpenSpec.ofChange signPartsSpec)

/-- ITS FALSE NEIGHBOUR: 'it returns false'. Refute it at one input. -/
def signPartsWrong : ChangeSpec := { name := "signParts", fn := fun _ => fun
  | [d] => { results := [.lit (.bool false)], args := [d] }
  | _ => none }
def SignPartsWrongFalsely : Prop := signPartsRow.holds Tryd.pinned (OpenSpec.ofChange signPartsWrong)

/-- 'tocsinlaw01.SignFinds': WHATEVER THE INPUT: true; the input reads as it did. -/
def signFindsSpec : ChangeSpec := { name := "signFinds", fn := fun _ => fun
  | [d1, d2, d3] => { results := [.lit (.bool true)], args := [d1, d2, d3] }
  | _ => none }
def signFindsRow : OpenClaim := { program := "ytaigcmlalnegpaadoor", sum := "b41055fd6963b78da1c9859d704c87a0472a7d8c730ea243b579d9d333db8ff1", func := "tocsin/tocsinlaw01.SignFinds", spec := "signFinds", inPlace := ["internal/abi.NoEscape", "internal/bytealg.MakeNoZero"], unfollowed := true, recurses := true, named := ["tocsin/sign.letterRows", "unicode/utf8.first", "unicode/utf8.acceptRanges"], apart := false, laid := [("unicode/utf8.acceptRanges", laid_unicode_utf8_acceptRanges), ("tocsin/sign.letterRows", laid_tocsin_sign_letterRows), ("unicode/utf8.first", laid_unicode_utf8_first)] }
def SignFindsSaid : Prop := signFindsRow.holds Tryd.pinned (OpenSpec.ofChange signFindsSpec)

/-- ITS FALSE NEIGHBOUR: 'it returns false'. Refute it at one input. -/
def signFindsWrong : ChangeSpec := { name := "signFinds", fn := fun _ => fun
  | [d1, d2, d3] => { results := [.lit (.bool false)], args := [d1, d2, d3] }
  | _ => none }
def SignFindsWrongFalsely : Prop := signFindsRow.holds Tryd.pinned (OpenSpec.ofChange signFindsWrong)

/-- 'tocsinlaw01.SignIsWord': WHATEVER THE INPUT: true; the input reads as it did. -/
def signIsWordSpec : ChangeSpec := { name := "signIsWord", fn := fun _ => fun
  | [d] => { results := [.lit (.bool true)], args := [d] }
  | _ => none }
def signIsWordRow : OpenClaim := { program := "ytaigcmlalnegpaadoor", sum := "b41055fd6963b78da1c9859d704c87a0472a7d8c730ea243b579d9d333db8ff1", func := "tocsin/tocsinlaw01.SignIsWord", spec := "signIsWord", inPlace := ["internal/abi.NoEscape", "internal/bytealg.MakeNoZero"], unfollowed := true, recurses := true, named := ["tocsin/sign.letterRows", "unicode/utf8.first", "unicode/utf8.acceptRanges"], apart := false, laid := [("unicode/utf8.acceptRanges", laid_unicode_utf8_acceptRanges), ("tocsin/sign.letterRows", laid_tocsin_sign_letterRows), ("unicode/utf8.first", laid_unicode_utf8_first)] }
def SignIsWordSaid : Prop := signIsWordRow.holds Tryd.pinned (OpenSpec.ofChange signIsWordSpec)

/-- ITS FALSE NEIGHBOUR: 'it returns false'. Refute it at one input. -/
def signIsWordWrong : ChangeSpec := { name := "signIsWord", fn := fun _ => fun
  | [d] => { results := [.lit (.bool false)], args := [d] }
  | _ => none }
def SignIsWordWrongFalsely : Prop := signIsWordRow.holds Tryd.pinned (OpenSpec.ofChange signIsWordWrong)

/-- 'tocsinlaw01.SignWords': WHATEVER THE INPUT: true; the input reads as it did. -/
def signWordsSpec : ChangeSpec := { name := "signWords", fn := fun _ => fun
  | [d1, d2] => { results := [.lit (.bool true)], args := [d1, d2] }
  | _ => none }
def signWordsRow : OpenClaim := { program := "ytaigcmlalnegpaadoor", sum := "b41055fd6963b78da1c9859d704c87a0472a7d8c730ea243b579d9d333db8ff1", func := "tocsin/tocsinlaw01.SignWords", spec := "signWords", inPlace := ["internal/abi.NoEscape", "internal/bytealg.MakeNoZero"], unfollowed := true, recurses := true, named := ["tocsin/sign.letterRows", "unicode/utf8.first", "unicode/utf8.acceptRanges"], apart := false, laid := [("unicode/utf8.acceptRanges", laid_unicode_utf8_acceptRanges), ("tocsin/sign.letterRows", laid_tocsin_sign_letterRows), ("unicode/utf8.first", laid_unicode_utf8_first)] }
def SignWordsSaid : Prop := signWordsRow.holds Tryd.pinned (OpenSpec.ofChange signWordsSpec)

/-- ITS FALSE NEIGHBOUR: 'it returns false'. Refute it at one input. -/
def signWordsWrong : ChangeSpec := { name := "signWords", fn := fun _ => fun
  | [d1, d2] => { results := [.lit (.bool false)], args := [d1, d2] }
  | _ => none }
def SignWordsWrongFalsely : Prop := signWordsRow.holds Tryd.pinned (OpenSpec.ofChange signWordsWrong)

/-- 'tocsinlaw01.SignEdges': WHATEVER THE INPUT: true; the input reads as it did. -/
def signEdgesSpec : ChangeSpec := { name := "signEdges", fn := fun _ => fun
  | [d1, d2] => { results := [.lit (.bool true)], args := [d1, d2] }
  | _ => none }
def signEdgesRow : OpenClaim := { program := "ytaigcmlalnegpaadoor", sum := "b41055fd6963b78da1c9859d704c87a0472a7d8c730ea243b579d9d333db8ff1", func := "tocsin/tocsinlaw01.SignEdges", spec := "signEdges", inPlace := ["internal/abi.NoEscape", "internal/bytealg.MakeNoZero"], unfollowed := true, recurses := true, named := ["tocsin/sign.letterRows", "unicode/utf8.first", "unicode/utf8.acceptRanges"], apart := false, laid := [("unicode/utf8.acceptRanges", laid_unicode_utf8_acceptRanges), ("tocsin/sign.letterRows", laid_tocsin_sign_letterRows), ("unicode/utf8.first", laid_unicode_utf8_first)] }
def SignEdgesSaid : Prop := signEdgesRow.holds Tryd.pinned (OpenSpec.ofChange signEdgesSpec)

/-- ITS FALSE NEIGHBOUR: 'it returns false'. Refute it at one input. -/
def signEdgesWrong : ChangeSpec := { name := "signEdges", fn := fun _ => fun
  | [d1, d2] => { results := [.lit (.bool false)], args := [d1, d2] }
  | _ => none }
def SignEdgesWrongFalsely : Prop := signEdgesRow.holds Tryd.pinned (OpenSpec.ofChange signEdgesWrong)

/- THE SECOND FORM. 'bulk': how many values and letters a reading holds, each counted each time it is reached (what is shared counts as often as it is met; a slice's spare places count too). A statement '..UptoSaid' is the law's where the arguments, and the package variables that the reading takes, are together of bulk at most 1048576: NARROWER than '..Said'. Prove '..Said' where nothing that the law and all that it calls make is longer than what came in: it says more and counts as full. Else prove '..UptoSaid'. A law counts once. -/
mutual
def uptoBulk {H : Type} : DataW H → Nat
  | .lit (.string bytes) => bytes.length + 1
  | .lit _ => 1
  | .nil => 1
  | .ptr d => uptoBulk d + 1
  | .slice elems spare => uptoBulkAll elems + uptoBulkAll spare + 1
  | .agg parts => uptoBulkAll parts + 1
  | .iface _ d => uptoBulk d + 1
  | .map entries => uptoBulkEntries entries + 1
  | .held _ => 1
def uptoBulkAll {H : Type} : List (DataW H) → Nat
  | [] => 0
  | d :: r => uptoBulk d + uptoBulkAll r
def uptoBulkEntries {H : Type} : List (Lit × DataW H) → Nat
  | [] => 0
  | x :: r => uptoBulkEntry x + uptoBulkEntries r
def uptoBulkEntry {H : Type} : Lit × DataW H → Nat
  | (.string bytes, d) => bytes.length + uptoBulk d + 1
  | (_, d) => uptoBulk d + 1
 end
def uptoSmall : (H : Type) → List (DataW H) → Bool := fun _ ds => decide (uptoBulkAll ds ≤ 1048576)
def OpenSpec.upto (s : _root_.Go.ChangeSpec) : _root_.Go.OpenSpec := { _root_.Go.OpenSpec.ofChange s with cond := some uptoSmall }

/-- 'tocsinlaw01.SignKeeps', WHERE WHAT IT READS IS OF BULK AT MOST 1048576: true; the input reads as it did. -/
def signKeepsUptoRow : OpenClaim := { program := "ytaigcmlalnegpaadoor", sum := "b41055fd6963b78da1c9859d704c87a0472a7d8c730ea243b579d9d333db8ff1", func := "tocsin/tocsinlaw01.SignKeeps", spec := "signKeeps", inPlace := ["internal/abi.NoEscape", "internal/bytealg.MakeNoZero"], unfollowed := true, recurses := true, named := ["tocsin/sign.letterRows", "unicode/utf8.first", "unicode/utf8.acceptRanges"], apart := false, laid := [("unicode/utf8.acceptRanges", laid_unicode_utf8_acceptRanges), ("tocsin/sign.letterRows", laid_tocsin_sign_letterRows), ("unicode/utf8.first", laid_unicode_utf8_first)], narrowed := true }
def SignKeepsUptoSaid : Prop := signKeepsUptoRow.holds Tryd.pinned (OpenSpec.upto signKeepsSpec)

/-- 'tocsinlaw01.SignParts', WHERE WHAT IT READS IS OF BULK AT MOST 1048576: true; the input reads as it did. -/
def signPartsUptoRow : OpenClaim := { program := "ytaigcmlalnegpaadoor", sum := "b41055fd6963b78da1c9859d704c87a0472a7d8c730ea243b579d9d333db8ff1", func := "tocsin/tocsinlaw01.SignParts", spec := "signParts", inPlace := ["internal/abi.NoEscape", "internal/bytealg.MakeNoZero"], unfollowed := true, recurses := true, named := ["tocsin/sign.letterRows", "unicode/utf8.first", "unicode/utf8.acceptRanges"], apart := false, laid := [("unicode/utf8.acceptRanges", laid_unicode_utf8_acceptRanges), ("tocsin/sign.letterRows", laid_tocsin_sign_letterRows), ("unicode/utf8.first", laid_unicode_utf8_first)], narrowed := true }
def SignPartsUptoSaid : Prop := signPartsUptoRow.holds Tryd.pinned (OpenSpec.upto signPartsSpec)

/-- 'tocsinlaw01.SignFinds', WHERE WHAT IT READS IS OF BULK AT MOST 1048576: true; the input reads as it did. -/
def signFindsUptoRow : OpenClaim := { program := "ytaigcmlalnegpaadoor", sum := "b41055fd6963b78da1c9859d704c87a0472a7d8c730ea243b579d9d333db8ff1", func := "tocsin/tocsinlaw01.SignFinds", spec := "signFinds", inPlace := ["internal/abi.NoEscape", "internal/bytealg.MakeNoZero"], unfollowed := true, recurses := true, named := ["tocsin/sign.letterRows", "unicode/utf8.first", "unicode/utf8.acceptRanges"], apart := false, laid := [("unicode/utf8.acceptRanges", laid_unicode_utf8_acceptRanges), ("tocsin/sign.letterRows", laid_tocsin_sign_letterRows), ("unicode/utf8.first", laid_unicode_utf8_first)], narrowed := true }
def SignFindsUptoSaid : Prop := signFindsUptoRow.holds Tryd.pinned (OpenSpec.upto signFindsSpec)

/-- 'tocsinlaw01.SignIsWord', WHERE WHAT IT READS IS OF BULK AT MOST 1048576: true; the input reads as it did. -/
def signIsWordUptoRow : OpenClaim := { program := "ytaigcmlalnegpaadoor", sum := "b41055fd6963b78da1c9859d704c87a0472a7d8c730ea243b579d9d333db8ff1", func := "tocsin/tocsinlaw01.SignIsWord", spec := "signIsWord", inPlace := ["internal/abi.NoEscape", "internal/bytealg.MakeNoZero"], unfollowed := true, recurses := true, named := ["tocsin/sign.letterRows", "unicode/utf8.first", "unicode/utf8.acceptRanges"], apart := false, laid := [("unicode/utf8.acceptRanges", laid_unicode_utf8_acceptRanges), ("tocsin/sign.letterRows", laid_tocsin_sign_letterRows), ("unicode/utf8.first", laid_unicode_utf8_first)], narrowed := true }
def SignIsWordUptoSaid : Prop := signIsWordUptoRow.holds Tryd.pinned (OpenSpec.upto signIsWordSpec)

/-- 'tocsinlaw01.SignWords', WHERE WHAT IT READS IS OF BULK AT MOST 1048576: true; the input reads as it did. -/
def signWordsUptoRow : OpenClaim := { program := "ytaigcmlalnegpaadoor", sum := "b41055fd6963b78da1c9859d704c87a0472a7d8c730ea243b579d9d333db8ff1", func := "tocsin/tocsinlaw01.SignWords", spec := "signWords", inPlace := ["internal/abi.NoEscape", "internal/bytealg.MakeNoZero"], unfollowed := true, recurses := true, named := ["tocsin/sign.letterRows", "unicode/utf8.first", "unicode/utf8.acceptRanges"], apart := false, laid := [("unicode/utf8.acceptRanges", laid_unicode_utf8_acceptRanges), ("tocsin/sign.letterRows", laid_tocsin_sign_letterRows), ("unicode/utf8.first", laid_unicode_utf8_first)], narrowed := true }
def SignWordsUptoSaid : Prop := signWordsUptoRow.holds Tryd.pinned (OpenSpec.upto signWordsSpec)

/-- 'tocsinlaw01.SignEdges', WHERE WHAT IT READS IS OF BULK AT MOST 1048576: true; the input reads as it did. -/
def signEdgesUptoRow : OpenClaim := { program := "ytaigcmlalnegpaadoor", sum := "b41055fd6963b78da1c9859d704c87a0472a7d8c730ea243b579d9d333db8ff1", func := "tocsin/tocsinlaw01.SignEdges", spec := "signEdges", inPlace := ["internal/abi.NoEscape", "internal/bytealg.MakeNoZero"], unfollowed := true, recurses := true, named := ["tocsin/sign.letterRows", "unicode/utf8.first", "unicode/utf8.acceptRanges"], apart := false, laid := [("unicode/utf8.acceptRanges", laid_unicode_utf8_acceptRanges), ("tocsin/sign.letterRows", laid_tocsin_sign_letterRows), ("unicode/utf8.first", laid_unicode_utf8_first)], narrowed := true }
def SignEdgesUptoSaid : Prop := signEdgesUptoRow.holds Tryd.pinned (OpenSpec.upto signEdgesSpec)

end Rows
end Go.Proofs.YtaigcmlalnegpaaDoor
