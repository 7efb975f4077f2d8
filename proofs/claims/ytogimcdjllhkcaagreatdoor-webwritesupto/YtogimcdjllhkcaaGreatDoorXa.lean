/-
  MESSAGES, plain: what a message does with its next byte.
-/
import Derived.WalkKit
import Derived.Lib.Split
import Derived.Lib.SlTrimSet
namespace Go.Wb
inductive Tk | no | ahead | inMethod | inTarget | inVersion | lineEnd | lineFeed | atLine | inName | inValue | inSize | inExt | blankA | inStatus | blankB | inReason
deriving DecidableEq
inductive Th | no | aheadAgain | headerLine | headerEnds | emptyLineEnds | requestLineEnds | statusFollows | sizeLine | sizeLineEnds
deriving DecidableEq
abbrev St := Tk × Th
structure Msg where
  tk : Tk
  th : Th
  begin : Nat
  at_ : Nat
  bound : Int
  frm : Nat
  word : List UInt8
  method : List UInt8
  target : List UInt8
  status : Nat
  newer : Bool
  lines : Nat
  name : List UInt8
  headers : List (List UInt8 × List UInt8)
  trailers : Bool
  last : Bool
  most : Nat
  size : Nat
  left : Nat
  body : List UInt8
  fAt : Nat
  fErr : Nat
def zero : Msg := ⟨.no, .no, 0, 0, 0, 0, [], [], [], 0, false, 0, [], [], false, false, 0, 0, 0, [], 0, 0⟩
def faulty (at_ err : Nat) : Msg := ⟨.no, .no, 0, 0, 0, 0, [], [], [], 0, false, 0, [], [], false, false, 0, 0, 0, [], at_, err⟩
def newReq (n : Nat) : Msg := ⟨.ahead, .no, n, n, -1, 0, [], [], [], 0, false, 0, [], [], false, false, 6000, 0, 0, [], 0, 0⟩
def newRes : Msg := ⟨.inVersion, .statusFollows, 0, 0, 2048, 0, [], [], [], 0, false, 0, [], [], false, false, 999999999, 0, 0, [], 0, 0⟩
def dig (c : UInt8) : Bool := decide (48 ≤ c.toNat) && decide (c.toNat ≤ 57)
def great (c : UInt8) : Bool := decide (65 ≤ c.toNat) && decide (c.toNat ≤ 90)
def blank (c : UInt8) : Bool := c.toNat == 32 || c.toNat == 9
def marks : List UInt8 := [33, 35, 36, 37, 38, 39, 42, 43, 45, 46, 94, 95, 96, 124, 126]
def tok (c : UInt8) : Bool := dig c || great c || (decide (97 ≤ c.toNat) && decide (c.toNat ≤ 122)) || marks.contains c
def tgt (c : UInt8) : Bool := decide (33 ≤ c.toNat) && decide (c.toNat ≤ 126)
def txt (c : UInt8) : Bool := c.toNat == 9 || (decide (32 ≤ c.toNat) && decide (c.toNat ≤ 126)) || decide (128 ≤ c.toNat)
def sm (c : UInt8) : UInt8 := if great c then UInt8.ofNat (c.toNat + 32) else c
def hexd (c : UInt8) : Option Nat := if dig c then some (c.toNat - 48) else if 97 ≤ (sm c).toNat ∧ (sm c).toNat ≤ 102 then some ((sm c).toNat - 87) else none
def trimR (l : List UInt8) : List UInt8 := Lib.trimRightS l [32, 9]
def trim (l : List UInt8) : List UInt8 := Lib.trimS l [32, 9]
/-- Items: what stands between commas. -/
def items (l : List UInt8) : List (List UInt8) := Lib.split l [44]
def hasItem (lists : List (List UInt8)) (item : List UInt8) : Bool := lists.any fun l => (items l).any fun o => (trim o).map sm == item
def vals (m : Msg) (nm : List UInt8) : List (List UInt8) := (m.headers.filter fun h => h.1 == nm).map (·.2)
def wHost : List UInt8 := [104, 111, 115, 116]
def wCoding : List UInt8 := [116, 114, 97, 110, 115, 102, 101, 114, 45, 101, 110, 99, 111, 100, 105, 110, 103]
def wLength : List UInt8 := [99, 111, 110, 116, 101, 110, 116, 45, 108, 101, 110, 103, 116, 104]
def wConn : List UInt8 := [99, 111, 110, 110, 101, 99, 116, 105, 111, 110]
def wChunked : List UInt8 := [99, 104, 117, 110, 107, 101, 100]
def wClose : List UInt8 := [99, 108, 111, 115, 101]
def wKeep : List UInt8 := [107, 101, 101, 112, 45, 97, 108, 105, 118, 101]
def grown (most n base d : Nat) : Nat := if most < n then n else n * base + d
def numberOf (most : Nat) (l : List UInt8) : Nat := l.foldl (fun n c => grown most n 10 (c.toNat - 48)) 0
def isNumber (l : List UInt8) : Bool := !l.isEmpty && l.all dig
/-- The body's length, whether it comes in chunks, an error. -/
def frame (m : Msg) : Nat × Bool × Nat :=
  if m.status = 0 ∧ (1 < (vals m wHost).length ∨ m.newer = true ∧ (vals m wHost).length = 0) then (0, false, 180)
  else if 0 < (vals m wCoding).length ∧ (0 < (vals m wLength).length ∨ m.newer = false) then (0, false, 180)
  else if 0 < (vals m wCoding).length ∧ (1 < (vals m wCoding).length ∨ ((vals m wCoding).headD []).map sm ≠ wChunked) then (0, false, 183)
  else if (vals m wLength).length = 0 then (0, decide (0 < (vals m wCoding).length), 0)
  else if 1 < (vals m wLength).length ∨ isNumber ((vals m wLength).headD []) = false then (0, false, 180)
  else if m.most < numberOf m.most ((vals m wLength).headD []) then (0, false, 182)
  else (numberOf m.most ((vals m wLength).headD []), false, 0)
def isLast (m : Msg) : Bool := if m.newer then hasItem (vals m wConn) wClose else !hasItem (vals m wConn) wKeep || hasItem (vals m wConn) wClose
abbrev Out := St × Msg
def fail (_m : Msg) (at_ err : Nat) : Out := ((.no, .no), faulty at_ err)
def refuse (m : Msg) : Out := fail m m.at_ 180
def part (m : Msg) (t : Tk) : Out := ((t, .no), { m with frm := m.at_ + 1, word := [] })
def keep (m : Msg) (c : UInt8) : Msg := if m.trailers then m else { m with word := m.word ++ [c] }
def sizeLine (m : Msg) : Out := part { m with size := 0 } .inSize
def headerLine (m : Msg) : Out := part m .atLine
def bare (n : Nat) : Bool := n == 204 || n == 304
def headEnds (m : Msg) : Out :=
  if (frame m).2.2 ≠ 0 then fail m (m.at_ + 1) (frame m).2.2
  else if bare m.status then ((.no, .no), { m with last := isLast m })
  else if (frame m).2.1 then sizeLine { m with last := isLast m }
  else ((.no, .no), { m with last := isLast m, left := (frame m).1 })
def tooMuch (m : Msg) (c : UInt8) : Bool := !(c.toNat == 13) && m.at_ == m.frm + 64
def inSize (m : Msg) (c : UInt8) : Out :=
  if tooMuch m c then fail m m.at_ 181
  else match hexd c with
    | some d => ((m.tk, m.th), { m with size := grown m.most m.size 16 d })
    | none => if m.at_ = m.frm then refuse m else if c.toNat = 13 then ((.lineFeed, .sizeLineEnds), m) else if c.toNat = 59 then ((.inExt, .no), m) else refuse m
def inExt (m : Msg) (c : UInt8) : Out :=
  if tooMuch m c then fail m m.at_ 181 else if c.toNat = 13 then ((.lineFeed, .sizeLineEnds), m) else if txt c then ((m.tk, m.th), m) else refuse m
def sizeLineEnds (m : Msg) : Out :=
  if m.most < m.size + m.body.length then fail m m.frm 182
  else if m.size = 0 then headerLine { m with trailers := true, lines := 0, bound := m.at_ + 1 + 2048 }
  else ((.lineEnd, .sizeLine), { m with left := m.size })
def inName (m : Msg) (c : UInt8) : Out :=
  if tok c then ((.inName, .no), keep m (sm c))
  else if c.toNat = 58 ∧ m.frm < m.at_ then part { m with name := m.word } .inValue else refuse m
def atLine (m : Msg) (c : UInt8) : Out :=
  if c.toNat = 13 then ((.lineFeed, .emptyLineEnds), m)
  else if m.lines = 32 then fail m m.at_ 181
  else inName { m with lines := m.lines + 1 } c
def inValue (m : Msg) (c : UInt8) : Out :=
  if c.toNat = 13 then ((.lineFeed, .headerEnds), m)
  else if blank c && m.word.isEmpty then ((m.tk, m.th), m)
  else if txt c then ((m.tk, m.th), keep m c) else refuse m
def headerEnds (m : Msg) : Out := headerLine (if m.trailers then m else { m with headers := m.headers ++ [(m.name, trimR m.word)] })
def emptyLineEnds (m : Msg) : Out := if m.trailers then ((.no, .no), m) else headEnds { m with bound := -1, word := [], name := [] }
def inMethod (m : Msg) (c : UInt8) : Out :=
  if tok c then ((.inMethod, .no), keep m c)
  else if c.toNat = 32 ∧ 0 < m.word.length then part { m with method := m.word } .inTarget else refuse m
def ahead (m : Msg) (c : UInt8) : Out :=
  if c.toNat = 13 then ((.lineFeed, .aheadAgain), m) else inMethod { m with bound := m.at_ + 2048 } c
def aheadAgain (m : Msg) : Out := ((.ahead, .no), m)
def inTarget (m : Msg) (c : UInt8) : Out :=
  if m.word.length = 0 ∧ c.toNat ≠ 47 then refuse m
  else if c.toNat = 32 then ((.inVersion, .requestLineEnds), (part { m with target := m.word } .inVersion).2)
  else if tgt c = false then refuse m
  else if m.word.length = 512 then fail m m.at_ 181
  else ((m.tk, m.th), keep m c)
def form : List UInt8 := [72, 84, 84, 80, 47, 48, 46, 48]
def wOlder : List UInt8 := [72, 84, 84, 80, 47, 49, 46, 48]
def wNewer : List UInt8 := [72, 84, 84, 80, 47, 49, 46, 49]
def requestLineEnds (m : Msg) : Out := ((.lineEnd, .headerLine), m)
def statusFollows (m : Msg) : Out := ((.blankA, .no), m)
/-- What follows, of what may follow. -/
def thenDo (t : Th) (m : Msg) : Out := match t with
  | .no => ((.no, .no), m)
  | .aheadAgain => aheadAgain m
  | .headerLine => headerLine m
  | .headerEnds => headerEnds m
  | .emptyLineEnds => emptyLineEnds m
  | .requestLineEnds => requestLineEnds m
  | .statusFollows => statusFollows m
  | .sizeLine => sizeLine m
  | .sizeLineEnds => sizeLineEnds m
def want (m : Msg) : UInt8 := form.getD m.word.length 0
def inVersion (m : Msg) (c : UInt8) : Out :=
  if c ≠ want m ∧ (want m ≠ 48 ∨ dig c = false) then refuse m
  else if (keep m c).word.length < 8 then ((m.tk, m.th), keep m c)
  else if (keep m c).word ≠ wOlder ∧ (keep m c).word ≠ wNewer then fail m m.frm 184
  else thenDo m.th { keep m c with newer := decide ((keep m c).word = wNewer) }
def blankA (m : Msg) (c : UInt8) : Out := if c.toNat = 32 then part m .inStatus else refuse m
def inStatus (m : Msg) (c : UInt8) : Out :=
  if dig c = false then refuse m
  else if m.at_ < m.frm + 2 then ((m.tk, m.th), { m with status := m.status * 10 + (c.toNat - 48) })
  else if 200 ≤ m.status * 10 + (c.toNat - 48) ∧ m.status * 10 + (c.toNat - 48) ≤ 599 then ((.blankB, .no), { m with status := m.status * 10 + (c.toNat - 48) })
  else fail m m.frm 180
def blankB (m : Msg) (c : UInt8) : Out := if c.toNat = 32 then ((.inReason, .no), m) else refuse m
def inReason (m : Msg) (c : UInt8) : Out := if c.toNat = 13 then ((.lineFeed, .headerLine), m) else if txt c then ((m.tk, m.th), m) else refuse m
def lineEnd (m : Msg) (c : UInt8) : Out := if c.toNat = 13 then ((.lineFeed, m.th), m) else refuse m
def lineFeed (m : Msg) (c : UInt8) : Out := if c.toNat = 10 then thenDo m.th m else refuse m
def takeDo (t : Tk) (m : Msg) (c : UInt8) : Out := match t with
  | .no => ((.no, .no), m)
  | .ahead => ahead m c
  | .inMethod => inMethod m c
  | .inTarget => inTarget m c
  | .inVersion => inVersion m c
  | .lineEnd => lineEnd m c
  | .lineFeed => lineFeed m c
  | .atLine => atLine m c
  | .inName => inName m c
  | .inValue => inValue m c
  | .inSize => inSize m c
  | .inExt => inExt m c
  | .blankA => blankA m c
  | .inStatus => inStatus m c
  | .blankB => blankB m c
  | .inReason => inReason m c
/-- A byte that is none of the body. -/
def step (m : Msg) (c : UInt8) : Msg :=
  if (m.at_ : Int) = m.bound then (fail m m.at_ 181).2
  else { (takeDo m.tk m c).2 with tk := (takeDo m.tk m c).1.1, th := (takeDo m.tk m c).1.2, at_ := (takeDo m.tk m c).2.at_ + 1 }
def over (m : Msg) : Bool := m.tk == .no && m.left == 0
def whole (m : Msg) : Bool := over m && m.fErr == 0
/-- Any byte. -/
def bite (m : Msg) (c : UInt8) : Msg := if 0 < m.left then { m with body := m.body ++ [c], left := m.left - 1, at_ := m.at_ + 1 } else step m c
/-- As many bytes as belong to the message; how many these are. -/
def rd (m : Msg) : List UInt8 → Msg × Nat
  | [] => (m, 0)
  | c :: r => if over m then (m, 0) else ((rd (bite m c) r).1, (rd (bite m c) r).2 + 1)
/-- A request, or a response, as it is told. -/
structure Rq where
  method : List UInt8
  target : List UInt8
  headers : List (List UInt8 × List UInt8)
  body : List UInt8
  last : Bool
def req (m : Msg) : Rq := ⟨m.method, m.target, m.headers, m.body, m.last⟩
def goOn (m : Msg) : Msg := if m.last then zero else newReq m.at_
/-- What a parser does with bytes. -/
def fd (m : Msg) : List UInt8 → List Rq × Msg
  | [] => ([], m)
  | c :: r => if over m then ([], m) else if whole (bite m c) then (req (bite m c) :: (fd (goOn (bite m c)) r).1, (fd (goOn (bite m c)) r).2) else fd (bite m c) r
theorem fd_cons (m : Msg) (c : UInt8) (r : List UInt8) : fd m (c :: r) = if over m then ([], m) else if whole (bite m c) then (req (bite m c) :: (fd (goOn (bite m c)) r).1, (fd (goOn (bite m c)) r).2) else fd (bite m c) r := rfl
theorem fd_over {m : Msg} (h : over m = true) (l : List UInt8) : fd m l = ([], m) := by
  cases l with
  | nil => rfl
  | cons c r => rw [fd_cons, if_pos h]
theorem fd_app (m : Msg) (a b : List UInt8) : fd m (a ++ b) = ((fd m a).1 ++ (fd (fd m a).2 b).1, (fd (fd m a).2 b).2) := by
  induction a generalizing m with
  | nil => rfl
  | cons c r ih =>
    rw [List.cons_append, fd_cons m c (r ++ b), fd_cons m c r]
    by_cases h : over m = true
    · rw [if_pos h, if_pos h, fd_over h b]; rfl
    · rw [if_neg h, if_neg h]
      by_cases h2 : whole (bite m c) = true
      · rw [if_pos h2, if_pos h2, ih]; rfl
      · rw [if_neg h2, if_neg h2, ih]
def waits (m : Msg) : Nat := if over m then 0 else m.at_ - m.begin
end Go.Wb
