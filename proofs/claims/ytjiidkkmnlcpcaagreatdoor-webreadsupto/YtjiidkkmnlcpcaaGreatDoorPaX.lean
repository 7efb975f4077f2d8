/-
  Laid together by packg.py of Xa Xb Xc Xca Xcb.
-/
import Derived.WalkKit
import Derived.Lib.Split
import Derived.Lib.SlTrimSet
namespace Go.Wb
inductive Tk | no | ahead | inMethod | inTarget | inVersion | lineEnd | lineFeed | atLine | inName | inValue | inSize | inExt | blankA | inStatus | blankB | inReason
deriving DecidableEq
inductive Th | no | aheadAgain | headerLine | headerEnds | emptyLineEnds | requestLineEnds | statusFollows | sizeLine | sizeLineEnds
deriving DecidableEq
abbrev St := Tk × Th
structure Msg where
  tk : Tk
  th : Th
  begin : Nat
  at_ : Nat
  bound : Int
  frm : Nat
  word : List UInt8
  method : List UInt8
  target : List UInt8
  status : Nat
  newer : Bool
  lines : Nat
  name : List UInt8
  headers : List (List UInt8 × List UInt8)
  trailers : Bool
  last : Bool
  most : Nat
  size : Nat
  left : Nat
  body : List UInt8
  fAt : Nat
  fErr : Nat
def zero : Msg := ⟨.no, .no, 0, 0, 0, 0, [], [], [], 0, false, 0, [], [], false, false, 0, 0, 0, [], 0, 0⟩
def faulty (at_ err : Nat) : Msg := ⟨.no, .no, 0, 0, 0, 0, [], [], [], 0, false, 0, [], [], false, false, 0, 0, 0, [], at_, err⟩
def newReq (n : Nat) : Msg := ⟨.ahead, .no, n, n, -1, 0, [], [], [], 0, false, 0, [], [], false, false, 6000, 0, 0, [], 0, 0⟩
def newRes : Msg := ⟨.inVersion, .statusFollows, 0, 0, 2048, 0, [], [], [], 0, false, 0, [], [], false, false, 999999999, 0, 0, [], 0, 0⟩
def dig (c : UInt8) : Bool := decide (48 ≤ c.toNat) && decide (c.toNat ≤ 57)
def great (c : UInt8) : Bool := decide (65 ≤ c.toNat) && decide (c.toNat ≤ 90)
def blank (c : UInt8) : Bool := c.toNat == 32 || c.toNat == 9
def marks : List UInt8 := [33, 35, 36, 37, 38, 39, 42, 43, 45, 46, 94, 95, 96, 124, 126]
def tok (c : UInt8) : Bool := dig c || great c || (decide (97 ≤ c.toNat) && decide (c.toNat ≤ 122)) || marks.contains c
def tgt (c : UInt8) : Bool := decide (33 ≤ c.toNat) && decide (c.toNat ≤ 126)
def txt (c : UInt8) : Bool := c.toNat == 9 || (decide (32 ≤ c.toNat) && decide (c.toNat ≤ 126)) || decide (128 ≤ c.toNat)
def sm (c : UInt8) : UInt8 := if great c then UInt8.ofNat (c.toNat + 32) else c
def hexd (c : UInt8) : Option Nat := if dig c then some (c.toNat - 48) else if 97 ≤ (sm c).toNat ∧ (sm c).toNat ≤ 102 then some ((sm c).toNat - 87) else none
def trimR (l : List UInt8) : List UInt8 := Lib.trimRightS l [32, 9]
def trim (l : List UInt8) : List UInt8 := Lib.trimS l [32, 9]
/-- Items: what stands between commas. -/
def items (l : List UInt8) : List (List UInt8) := Lib.split l [44]
def hasItem (lists : List (List UInt8)) (item : List UInt8) : Bool := lists.any fun l => (items l).any fun o => (trim o).map sm == item
def vals (m : Msg) (nm : List UInt8) : List (List UInt8) := (m.headers.filter fun h => h.1 == nm).map (·.2)
def wHost : List UInt8 := [104, 111, 115, 116]
def wCoding : List UInt8 := [116, 114, 97, 110, 115, 102, 101, 114, 45, 101, 110, 99, 111, 100, 105, 110, 103]
def wLength : List UInt8 := [99, 111, 110, 116, 101, 110, 116, 45, 108, 101, 110, 103, 116, 104]
def wConn : List UInt8 := [99, 111, 110, 110, 101, 99, 116, 105, 111, 110]
def wChunked : List UInt8 := [99, 104, 117, 110, 107, 101, 100]
def wClose : List UInt8 := [99, 108, 111, 115, 101]
def wKeep : List UInt8 := [107, 101, 101, 112, 45, 97, 108, 105, 118, 101]
def grown (most n base d : Nat) : Nat := if most < n then n else n * base + d
def numberOf (most : Nat) (l : List UInt8) : Nat := l.foldl (fun n c => grown most n 10 (c.toNat - 48)) 0
def isNumber (l : List UInt8) : Bool := !l.isEmpty && l.all dig
/-- The body's length, whether it comes in chunks, an error. -/
def frame (m : Msg) : Nat × Bool × Nat :=
  if m.status = 0 ∧ (1 < (vals m wHost).length ∨ m.newer = true ∧ (vals m wHost).length = 0) then (0, false, 180)
  else if 0 < (vals m wCoding).length ∧ (0 < (vals m wLength).length ∨ m.newer = false) then (0, false, 180)
  else if 0 < (vals m wCoding).length ∧ (1 < (vals m wCoding).length ∨ ((vals m wCoding).headD []).map sm ≠ wChunked) then (0, false, 183)
  else if (vals m wLength).length = 0 then (0, decide (0 < (vals m wCoding).length), 0)
  else if 1 < (vals m wLength).length ∨ isNumber ((vals m wLength).headD []) = false then (0, false, 180)
  else if m.most < numberOf m.most ((vals m wLength).headD []) then (0, false, 182)
  else (numberOf m.most ((vals m wLength).headD []), false, 0)
def isLast (m : Msg) : Bool := if m.newer then hasItem (vals m wConn) wClose else !hasItem (vals m wConn) wKeep || hasItem (vals m wConn) wClose
abbrev Out := St × Msg
def fail (_m : Msg) (at_ err : Nat) : Out := ((.no, .no), faulty at_ err)
def refuse (m : Msg) : Out := fail m m.at_ 180
def part (m : Msg) (t : Tk) : Out := ((t, .no), { m with frm := m.at_ + 1, word := [] })
def keep (m : Msg) (c : UInt8) : Msg := if m.trailers then m else { m with word := m.word ++ [c] }
def sizeLine (m : Msg) : Out := part { m with size := 0 } .inSize
def headerLine (m : Msg) : Out := part m .atLine
def bare (n : Nat) : Bool := n == 204 || n == 304
def headEnds (m : Msg) : Out :=
  if (frame m).2.2 ≠ 0 then fail m (m.at_ + 1) (frame m).2.2
  else if bare m.status then ((.no, .no), { m with last := isLast m })
  else if (frame m).2.1 then sizeLine { m with last := isLast m }
  else ((.no, .no), { m with last := isLast m, left := (frame m).1 })
def tooMuch (m : Msg) (c : UInt8) : Bool := !(c.toNat == 13) && m.at_ == m.frm + 64
def inSize (m : Msg) (c : UInt8) : Out :=
  if tooMuch m c then fail m m.at_ 181
  else match hexd c with
    | some d => ((m.tk, m.th), { m with size := grown m.most m.size 16 d })
    | none => if m.at_ = m.frm then refuse m else if c.toNat = 13 then ((.lineFeed, .sizeLineEnds), m) else if c.toNat = 59 then ((.inExt, .no), m) else refuse m
def inExt (m : Msg) (c : UInt8) : Out :=
  if tooMuch m c then fail m m.at_ 181 else if c.toNat = 13 then ((.lineFeed, .sizeLineEnds), m) else if txt c then ((m.tk, m.th), m) else refuse m
def sizeLineEnds (m : Msg) : Out :=
  if m.most < m.size + m.body.length then fail m m.frm 182
  else if m.size = 0 then headerLine { m with trailers := true, lines := 0, bound := m.at_ + 1 + 2048 }
  else ((.lineEnd, .sizeLine), { m with left := m.size })
def inName (m : Msg) (c : UInt8) : Out :=
  if tok c then ((.inName, .no), keep m (sm c))
  else if c.toNat = 58 ∧ m.frm < m.at_ then part { m with name := m.word } .inValue else refuse m
def atLine (m : Msg) (c : UInt8) : Out :=
  if c.toNat = 13 then ((.lineFeed, .emptyLineEnds), m)
  else if m.lines = 32 then fail m m.at_ 181
  else inName { m with lines := m.lines + 1 } c
def inValue (m : Msg) (c : UInt8) : Out :=
  if c.toNat = 13 then ((.lineFeed, .headerEnds), m)
  else if blank c && m.word.isEmpty then ((m.tk, m.th), m)
  else if txt c then ((m.tk, m.th), keep m c) else refuse m
def headerEnds (m : Msg) : Out := headerLine (if m.trailers then m else { m with headers := m.headers ++ [(m.name, trimR m.word)] })
def emptyLineEnds (m : Msg) : Out := if m.trailers then ((.no, .no), m) else headEnds { m with bound := -1, word := [], name := [] }
def inMethod (m : Msg) (c : UInt8) : Out :=
  if tok c then ((.inMethod, .no), keep m c)
  else if c.toNat = 32 ∧ 0 < m.word.length then part { m with method := m.word } .inTarget else refuse m
def ahead (m : Msg) (c : UInt8) : Out :=
  if c.toNat = 13 then ((.lineFeed, .aheadAgain), m) else inMethod { m with bound := m.at_ + 2048 } c
def aheadAgain (m : Msg) : Out := ((.ahead, .no), m)
def inTarget (m : Msg) (c : UInt8) : Out :=
  if m.word.length = 0 ∧ c.toNat ≠ 47 then refuse m
  else if c.toNat = 32 then ((.inVersion, .requestLineEnds), (part { m with target := m.word } .inVersion).2)
  else if tgt c = false then refuse m
  else if m.word.length = 512 then fail m m.at_ 181
  else ((m.tk, m.th), keep m c)
def form : List UInt8 := [72, 84, 84, 80, 47, 48, 46, 48]
def wOlder : List UInt8 := [72, 84, 84, 80, 47, 49, 46, 48]
def wNewer : List UInt8 := [72, 84, 84, 80, 47, 49, 46, 49]
def requestLineEnds (m : Msg) : Out := ((.lineEnd, .headerLine), m)
def statusFollows (m : Msg) : Out := ((.blankA, .no), m)
/-- What follows, of what may follow. -/
def thenDo (t : Th) (m : Msg) : Out := match t with
  | .no => ((.no, .no), m)
  | .aheadAgain => aheadAgain m
  | .headerLine => headerLine m
  | .headerEnds => headerEnds m
  | .emptyLineEnds => emptyLineEnds m
  | .requestLineEnds => requestLineEnds m
  | .statusFollows => statusFollows m
  | .sizeLine => sizeLine m
  | .sizeLineEnds => sizeLineEnds m
def want (m : Msg) : UInt8 := form.getD m.word.length 0
def inVersion (m : Msg) (c : UInt8) : Out :=
  if c ≠ want m ∧ (want m ≠ 48 ∨ dig c = false) then refuse m
  else if (keep m c).word.length < 8 then ((m.tk, m.th), keep m c)
  else if (keep m c).word ≠ wOlder ∧ (keep m c).word ≠ wNewer then fail m m.frm 184
  else thenDo m.th { keep m c with newer := decide ((keep m c).word = wNewer) }
def blankA (m : Msg) (c : UInt8) : Out := if c.toNat = 32 then part m .inStatus else refuse m
def inStatus (m : Msg) (c : UInt8) : Out :=
  if dig c = false then refuse m
  else if m.at_ < m.frm + 2 then ((m.tk, m.th), { m with status := m.status * 10 + (c.toNat - 48) })
  else if 200 ≤ m.status * 10 + (c.toNat - 48) ∧ m.status * 10 + (c.toNat - 48) ≤ 599 then ((.blankB, .no), { m with status := m.status * 10 + (c.toNat - 48) })
  else fail m m.frm 180
def blankB (m : Msg) (c : UInt8) : Out := if c.toNat = 32 then ((.inReason, .no), m) else refuse m
def inReason (m : Msg) (c : UInt8) : Out := if c.toNat = 13 then ((.lineFeed, .headerLine), m) else if txt c then ((m.tk, m.th), m) else refuse m
def lineEnd (m : Msg) (c : UInt8) : Out := if c.toNat = 13 then ((.lineFeed, m.th), m) else refuse m
def lineFeed (m : Msg) (c : UInt8) : Out := if c.toNat = 10 then thenDo m.th m else refuse m
def takeDo (t : Tk) (m : Msg) (c : UInt8) : Out := match t with
  | .no => ((.no, .no), m)
  | .ahead => ahead m c
  | .inMethod => inMethod m c
  | .inTarget => inTarget m c
  | .inVersion => inVersion m c
  | .lineEnd => lineEnd m c
  | .lineFeed => lineFeed m c
  | .atLine => atLine m c
  | .inName => inName m c
  | .inValue => inValue m c
  | .inSize => inSize m c
  | .inExt => inExt m c
  | .blankA => blankA m c
  | .inStatus => inStatus m c
  | .blankB => blankB m c
  | .inReason => inReason m c
/-- A byte that is none of the body. -/
def step (m : Msg) (c : UInt8) : Msg :=
  if (m.at_ : Int) = m.bound then (fail m m.at_ 181).2
  else { (takeDo m.tk m c).2 with tk := (takeDo m.tk m c).1.1, th := (takeDo m.tk m c).1.2, at_ := (takeDo m.tk m c).2.at_ + 1 }
def over (m : Msg) : Bool := m.tk == .no && m.left == 0
def whole (m : Msg) : Bool := over m && m.fErr == 0
/-- Any byte. -/
def bite (m : Msg) (c : UInt8) : Msg := if 0 < m.left then { m with body := m.body ++ [c], left := m.left - 1, at_ := m.at_ + 1 } else step m c
/-- As many bytes as belong to the message; how many these are. -/
def rd (m : Msg) : List UInt8 → Msg × Nat
  | [] => (m, 0)
  | c :: r => if over m then (m, 0) else ((rd (bite m c) r).1, (rd (bite m c) r).2 + 1)
/-- A request, or a response, as it is told. -/
structure Rq where
  method : List UInt8
  target : List UInt8
  headers : List (List UInt8 × List UInt8)
  body : List UInt8
  last : Bool
def req (m : Msg) : Rq := ⟨m.method, m.target, m.headers, m.body, m.last⟩
def goOn (m : Msg) : Msg := if m.last then zero else newReq m.at_
/-- What a parser does with bytes. -/
def fd (m : Msg) : List UInt8 → List Rq × Msg
  | [] => ([], m)
  | c :: r => if over m then ([], m) else if whole (bite m c) then (req (bite m c) :: (fd (goOn (bite m c)) r).1, (fd (goOn (bite m c)) r).2) else fd (bite m c) r
theorem fd_cons (m : Msg) (c : UInt8) (r : List UInt8) : fd m (c :: r) = if over m then ([], m) else if whole (bite m c) then (req (bite m c) :: (fd (goOn (bite m c)) r).1, (fd (goOn (bite m c)) r).2) else fd (bite m c) r := rfl
theorem fd_over {m : Msg} (h : over m = true) (l : List UInt8) : fd m l = ([], m) := by
  cases l with
  | nil => rfl
  | cons c r => rw [fd_cons, if_pos h]
theorem fd_app (m : Msg) (a b : List UInt8) : fd m (a ++ b) = ((fd m a).1 ++ (fd (fd m a).2 b).1, (fd (fd m a).2 b).2) := by
  induction a generalizing m with
  | nil => rfl
  | cons c r ih =>
    rw [List.cons_append, fd_cons m c (r ++ b), fd_cons m c r]
    by_cases h : over m = true
    · rw [if_pos h, if_pos h, fd_over h b]; rfl
    · rw [if_neg h, if_neg h]
      by_cases h2 : whole (bite m c) = true
      · rw [if_pos h2, if_pos h2, ih]; rfl
      · rw [if_neg h2, if_neg h2, ih]
def waits (m : Msg) : Nat := if over m then 0 else m.at_ - m.begin
end Go.Wb
namespace Go.Wb
/-- Bounds of a message's parts, k bytes having come. -/
structure Ok0 (m : Msg) (k : Nat) : Prop where
  word : m.word.length ≤ k
  body : m.body.length ≤ k
  heads : m.headers.length ≤ k
  lines : m.lines ≤ 32
  status : m.status ≤ 999
  size : m.size ≤ 16000000015
  most : m.most ≤ 999999999
  left : m.left ≤ 999999999
  frm : m.frm ≤ k
  nos : m.name.length ≤ k
structure Ok (m : Msg) : Prop where
  ok : Ok0 m m.at_
  inS : m.tk = .inStatus → m.at_ < m.frm + 3 ∧ m.status < 10 ^ (m.at_ - m.frm)
  ver : m.tk = .inVersion → m.word.length < 8 ∧ (m.th = .requestLineEnds ∨ m.th = .statusFollows)
  feed : m.tk = .lineFeed ∨ m.tk = .lineEnd → m.th ≠ .no ∧ m.th ≠ .requestLineEnds ∧ m.th ≠ .statusFollows
/-- The message behind a state function. -/
def after (o : Out) : Msg := { o.2 with tk := o.1.1, th := o.1.2, at_ := o.2.at_ + 1 }
theorem ok_faulty (a e : Nat) : Ok (faulty a e) := ⟨⟨Nat.zero_le _, Nat.zero_le _, Nat.zero_le _, Nat.zero_le _, Nat.zero_le _, Nat.zero_le _, Nat.zero_le _, Nat.zero_le _, Nat.zero_le _, Nat.zero_le _⟩, (fun e => by cases e), (fun e => by cases e), (fun e => by rcases e with e | e <;> cases e)⟩
theorem ok_zero : Ok zero := ok_faulty 0 0
theorem ok_fail (m : Msg) (a e : Nat) : Ok (after (fail m a e)) := ⟨⟨Nat.zero_le _, Nat.zero_le _, Nat.zero_le _, Nat.zero_le _, Nat.zero_le _, Nat.zero_le _, Nat.zero_le _, Nat.zero_le _, Nat.zero_le _, Nat.zero_le _⟩, (fun e => by cases e), (fun e => by cases e), (fun e => by rcases e with e | e <;> cases e)⟩
theorem ok_refuse (m : Msg) : Ok (after (refuse m)) := ok_fail m _ _
theorem Ok0.up {m : Msg} {k n : Nat} (h : Ok0 m k) (hn : k ≤ n) : Ok0 m n := ⟨Nat.le_trans h.word hn, Nat.le_trans h.body hn, Nat.le_trans h.heads hn, h.lines, h.status, h.size, h.most, h.left, Nat.le_trans h.frm hn, Nat.le_trans h.nos hn⟩
/-- A state that asks for nothing more. -/
theorem Ok0.same {m : Msg} (h : Ok0 m m.at_) (s : St) (h1 : s.1 ≠ .inStatus) (h2 : s.1 ≠ .inVersion) (h3 : s.1 = .lineFeed ∨ s.1 = .lineEnd → s.2 ≠ .no ∧ s.2 ≠ .requestLineEnds ∧ s.2 ≠ .statusFollows) : Ok (after (s, m)) :=
  ⟨⟨Nat.le_succ_of_le h.word, Nat.le_succ_of_le h.body, Nat.le_succ_of_le h.heads, h.lines, h.status, h.size, h.most, h.left, Nat.le_succ_of_le h.frm, Nat.le_succ_of_le h.nos⟩, fun e => absurd e h1, fun e => absurd e h2, h3⟩
theorem Ok0.part {m : Msg} (h : Ok0 m m.at_) (t : Tk) (h1 : t ≠ .inStatus ∨ m.status = 0) (h2 : t ≠ .inVersion) (h3 : t ≠ .lineFeed ∧ t ≠ .lineEnd) : Ok (after (part m t)) :=
  ⟨⟨Nat.zero_le _, Nat.le_succ_of_le h.body, Nat.le_succ_of_le h.heads, h.lines, h.status, h.size, h.most, h.left, Nat.le_refl _, Nat.le_succ_of_le h.nos⟩, fun e => by
    rcases h1 with h1 | h1
    · exact absurd e h1
    · refine ⟨by show m.at_ + 1 < m.at_ + 1 + 3; omega, ?_⟩
      show m.status < 10 ^ (m.at_ + 1 - (m.at_ + 1))
      rw [h1]; exact Nat.pow_pos (by omega), (fun e => absurd e h2), (fun e => by rcases e with e | e; exact absurd e h3.1; exact absurd e h3.2)⟩
theorem Ok0.keep {m : Msg} (h : Ok0 m m.at_) (c : UInt8) (s : St) (h1 : s.1 ≠ .inStatus) (h2 : s.1 = .inVersion → (Wb.keep m c).word.length < 8 ∧ (s.2 = .requestLineEnds ∨ s.2 = .statusFollows)) (h3 : s.1 ≠ .lineFeed ∧ s.1 ≠ .lineEnd) : Ok (after (s, Wb.keep m c)) := by
  refine ⟨?_, fun e => absurd e h1, h2, fun e => by rcases e with e | e; exact absurd e h3.1; exact absurd e h3.2⟩
  unfold Wb.keep
  split
  · exact ⟨Nat.le_succ_of_le h.word, Nat.le_succ_of_le h.body, Nat.le_succ_of_le h.heads, h.lines, h.status, h.size, h.most, h.left, Nat.le_succ_of_le h.frm, Nat.le_succ_of_le h.nos⟩
  · refine ⟨?_, Nat.le_succ_of_le h.body, Nat.le_succ_of_le h.heads, h.lines, h.status, h.size, h.most, h.left, Nat.le_succ_of_le h.frm, Nat.le_succ_of_le h.nos⟩
    show (m.word ++ [c]).length ≤ m.at_ + 1
    rw [List.length_append]; exact Nat.succ_le_succ h.word
theorem ok_sizeLine {m : Msg} (h : Ok0 m m.at_) : Ok (after (sizeLine m)) :=
  Ok0.part (m := { m with size := 0 }) ⟨h.word, h.body, h.heads, h.lines, h.status, Nat.zero_le _, h.most, h.left, h.frm, h.nos⟩ .inSize (.inl (by decide)) (by decide) ⟨by decide, by decide⟩
theorem ok_headerLine {m : Msg} (h : Ok0 m m.at_) : Ok (after (headerLine m)) := h.part .atLine (.inl (by decide)) (by decide) ⟨by decide, by decide⟩
theorem frame_le (m : Msg) : (frame m).1 ≤ m.most := by
  unfold frame
  split; exact Nat.zero_le _
  split; exact Nat.zero_le _
  split; exact Nat.zero_le _
  split; exact Nat.zero_le _
  split; exact Nat.zero_le _
  split; exact Nat.zero_le _
  rename_i h; exact Nat.le_of_not_lt h
theorem ok_headEnds {m : Msg} (h : Ok0 m m.at_) : Ok (after (headEnds m)) := by
  have hf := frame_le m
  have hm := h.most
  unfold headEnds
  split
  · exact ok_fail _ _ _
  · split
    · exact Ok0.same (m := { m with last := isLast m }) ⟨h.word, h.body, h.heads, h.lines, h.status, h.size, h.most, h.left, h.frm, h.nos⟩ _ (by decide) (by decide) (fun e => by rcases e with e | e <;> cases e)
    · split
      · exact ok_sizeLine (m := { m with last := isLast m }) ⟨h.word, h.body, h.heads, h.lines, h.status, h.size, h.most, h.left, h.frm, h.nos⟩
      · exact Ok0.same (m := { m with last := isLast m, left := (frame m).1 }) ⟨h.word, h.body, h.heads, h.lines, h.status, h.size, h.most, Nat.le_trans hf hm, h.frm, h.nos⟩ _ (by decide) (by decide) (fun e => by rcases e with e | e <;> cases e)
theorem ok_sizeLineEnds {m : Msg} (h : Ok0 m m.at_) : Ok (after (sizeLineEnds m)) := by
  have hm := h.most
  unfold sizeLineEnds
  split
  · exact ok_fail _ _ _
  · rename_i h1
    split
    · exact ok_headerLine (m := { m with trailers := true, lines := 0, bound := m.at_ + 1 + 2048 }) ⟨h.word, h.body, h.heads, Nat.zero_le _, h.status, h.size, h.most, h.left, h.frm, h.nos⟩
    · exact Ok0.same (m := { m with left := m.size }) ⟨h.word, h.body, h.heads, h.lines, h.status, h.size, h.most, by show m.size ≤ _; omega, h.frm, h.nos⟩ _ (by decide) (by decide) (fun _ => ⟨by decide, by decide, by decide⟩)
theorem ok_headerEnds {m : Msg} (h : Ok0 m m.at_) : Ok (after (headerEnds m)) := by
  unfold headerEnds
  split
  · exact ok_headerLine h
  · have h1 := h.heads
    refine ⟨⟨Nat.zero_le _, Nat.le_succ_of_le h.body, ?_, h.lines, h.status, h.size, h.most, h.left, Nat.le_refl _, Nat.le_succ_of_le h.nos⟩, (fun e => by cases e), (fun e => by cases e), (fun e => by rcases e with e | e <;> cases e)⟩
    show (m.headers ++ [(m.name, trimR m.word)]).length ≤ m.at_ + 1
    rw [List.length_append]; exact Nat.succ_le_succ h1
theorem ok_emptyLineEnds {m : Msg} (h : Ok0 m m.at_) : Ok (after (emptyLineEnds m)) := by
  unfold emptyLineEnds
  split
  · exact h.same _ (by decide) (by decide) (fun e => by rcases e with e | e <;> cases e)
  · exact ok_headEnds (m := { m with bound := -1, word := [], name := [] }) ⟨Nat.zero_le _, h.body, h.heads, h.lines, h.status, h.size, h.most, h.left, h.frm, Nat.zero_le _⟩
theorem ok_thenDo {m : Msg} (h : Ok0 m m.at_) (t : Th) : Ok (after (thenDo t m)) := by
  cases t with
  | no => exact h.same _ (by decide) (by decide) (fun e => by rcases e with e | e <;> cases e)
  | aheadAgain => exact h.same _ (by decide) (by decide) (fun e => by rcases e with e | e <;> cases e)
  | headerLine => exact ok_headerLine h
  | headerEnds => exact ok_headerEnds h
  | emptyLineEnds => exact ok_emptyLineEnds h
  | requestLineEnds => exact h.same _ (by decide) (by decide) (fun _ => ⟨by decide, by decide, by decide⟩)
  | statusFollows => exact h.same _ (by decide) (by decide) (fun e => by rcases e with e | e <;> cases e)
  | sizeLine => exact ok_sizeLine h
  | sizeLineEnds => exact ok_sizeLineEnds h
theorem ok_inName {m : Msg} (h : Ok0 m m.at_) (c : UInt8) : Ok (after (inName m c)) := by
  unfold inName
  split
  · exact h.keep _ _ (by decide) (fun e => by cases e) ⟨by decide, by decide⟩
  · split
    · exact Ok0.part (m := { m with name := m.word }) ⟨h.word, h.body, h.heads, h.lines, h.status, h.size, h.most, h.left, h.frm, h.word⟩ .inValue (.inl (by decide)) (by decide) ⟨by decide, by decide⟩
    · exact ok_refuse m
theorem ok_inMethod {m : Msg} (h : Ok0 m m.at_) (c : UInt8) : Ok (after (inMethod m c)) := by
  unfold inMethod
  split
  · exact h.keep _ _ (by decide) (fun e => by cases e) ⟨by decide, by decide⟩
  · split
    · exact Ok0.part (m := { m with method := m.word }) ⟨h.word, h.body, h.heads, h.lines, h.status, h.size, h.most, h.left, h.frm, h.nos⟩ .inTarget (.inl (by decide)) (by decide) ⟨by decide, by decide⟩
    · exact ok_refuse m
theorem grown_le {most n base d : Nat} (hn : n ≤ 16000000015) (hm : most ≤ 999999999) (hb : base ≤ 16) (hd : d ≤ 15) : grown most n base d ≤ 16000000015 := by
  unfold grown
  split
  · exact hn
  · have : n * base ≤ n * 16 := Nat.mul_le_mul_left _ hb
    omega
theorem hexd_le {c : UInt8} {d : Nat} (h : hexd c = some d) : d ≤ 15 := by
  unfold hexd at h
  split at h
  · rename_i h1
    simp only [dig, Bool.and_eq_true, decide_eq_true_eq] at h1
    injection h with h; omega
  · split at h
    · injection h with h; omega
    · cases h
theorem dig_sub {c : UInt8} (h : dig c = true) : c.toNat - 48 ≤ 9 ∧ 48 ≤ c.toNat := by
  simp only [dig, Bool.and_eq_true, decide_eq_true_eq] at h
  omega
theorem ok_takeDo {m : Msg} (h : Ok m) (c : UInt8) (hS : m.tk = .blankA → m.status = 0) : Ok (after (takeDo m.tk m c)) := by
  have h0 := h.ok
  have hsame : m.tk ≠ .inStatus → m.tk ≠ .inVersion → m.tk ≠ .lineFeed ∧ m.tk ≠ .lineEnd → Ok (after ((m.tk, m.th), m)) := fun a b d => h0.same _ a b fun e => by rcases e with e | e; exact absurd e d.1; exact absurd e d.2
  cases ht : m.tk with
  | no => exact h0.same _ (by decide) (by decide) (fun e => by rcases e with e | e <;> cases e)
  | ahead =>
    show Ok (after (ahead m c))
    unfold ahead
    split
    · exact h0.same _ (by decide) (by decide) (fun _ => ⟨by decide, by decide, by decide⟩)
    · exact ok_inMethod (m := { m with bound := m.at_ + 2048 }) ⟨h0.word, h0.body, h0.heads, h0.lines, h0.status, h0.size, h0.most, h0.left, h0.frm, h0.nos⟩ c
  | inMethod => exact ok_inMethod h0 c
  | inTarget =>
    show Ok (after (inTarget m c))
    unfold inTarget
    split
    · exact ok_refuse m
    · split
      · exact ⟨⟨Nat.zero_le _, Nat.le_succ_of_le h0.body, Nat.le_succ_of_le h0.heads, h0.lines, h0.status, h0.size, h0.most, h0.left, Nat.le_refl _, Nat.le_succ_of_le h0.nos⟩, (fun e => by cases e), (fun _ => ⟨by show 0 < 8; omega, .inl rfl⟩), (fun e => by rcases e with e | e <;> cases e)⟩
      · split
        · exact ok_refuse m
        · split
          · exact ok_fail m _ _
          · exact h0.keep c _ (by rw [ht]; intro e; cases e) (fun e => by rw [ht] at e; cases e) ⟨(by rw [ht]; intro e; cases e), (by rw [ht]; intro e; cases e)⟩
  | inVersion =>
    show Ok (after (inVersion m c))
    have hv := h.ver ht
    unfold inVersion
    split
    · exact ok_refuse m
    · split
      · rename_i h8
        exact h0.keep c _ (by rw [ht]; intro e; cases e) (fun _ => ⟨h8, hv.2⟩) ⟨(by rw [ht]; intro e; cases e), (by rw [ht]; intro e; cases e)⟩
      · split
        · exact ok_fail m _ _
        · have hk : Ok0 (keep m c) ((keep m c).at_ + 1) := (h0.keep c (.no, .no) (by decide) (fun e => by cases e) ⟨by decide, by decide⟩).ok.1 |> fun _ => by
            have h1 := (h0.keep c (.no, .no) (by decide) (fun e => by cases e) ⟨by decide, by decide⟩).ok
            exact ⟨h1.word, h1.body, h1.heads, h1.lines, h1.status, h1.size, h1.most, h1.left, h1.frm, h1.nos⟩
          rcases hv.2 with e | e
          · rw [e]
            exact ⟨⟨hk.word, hk.body, hk.heads, hk.lines, hk.status, hk.size, hk.most, hk.left, hk.frm, hk.nos⟩, (fun e => by cases e), (fun e => by cases e), (fun _ => ⟨by show Th.headerLine ≠ .no; decide, by show Th.headerLine ≠ _; decide, by show Th.headerLine ≠ _; decide⟩)⟩
          · rw [e]
            exact ⟨⟨hk.word, hk.body, hk.heads, hk.lines, hk.status, hk.size, hk.most, hk.left, hk.frm, hk.nos⟩, (fun e => by cases e), (fun e => by cases e), (fun e => by rcases e with e | e <;> cases e)⟩
  | lineEnd =>
    show Ok (after (lineEnd m c))
    unfold lineEnd
    split
    · exact h0.same _ (fun e => by cases e) (fun e => by cases e) (fun _ => h.feed (.inr ht))
    · exact ok_refuse m
  | lineFeed =>
    show Ok (after (lineFeed m c))
    unfold lineFeed
    split
    · exact ok_thenDo h0 _
    · exact ok_refuse m
  | atLine =>
    show Ok (after (atLine m c))
    unfold atLine
    split
    · exact h0.same _ (by decide) (by decide) (fun _ => ⟨by decide, by decide, by decide⟩)
    · split
      · exact ok_fail m _ _
      · exact ok_inName (m := { m with lines := m.lines + 1 }) ⟨h0.word, h0.body, h0.heads, by have := h0.lines; show m.lines + 1 ≤ 32; omega, h0.status, h0.size, h0.most, h0.left, h0.frm, h0.nos⟩ c
  | inName => exact ok_inName h0 c
  | inValue =>
    show Ok (after (inValue m c))
    unfold inValue
    split
    · exact h0.same _ (by decide) (by decide) (fun _ => ⟨by decide, by decide, by decide⟩)
    · split
      · exact hsame (by rw [ht]; intro e; cases e) (by rw [ht]; intro e; cases e) ⟨(by rw [ht]; intro e; cases e), (by rw [ht]; intro e; cases e)⟩
      · split
        · exact h0.keep c _ (by rw [ht]; intro e; cases e) (fun e => by rw [ht] at e; cases e) ⟨(by rw [ht]; intro e; cases e), (by rw [ht]; intro e; cases e)⟩
        · exact ok_refuse m
  | inSize =>
    show Ok (after (inSize m c))
    unfold inSize
    split
    · exact ok_fail m _ _
    · split
      · rename_i d hd
        exact Ok0.same (m := { m with size := grown m.most m.size 16 d }) ⟨h0.word, h0.body, h0.heads, h0.lines, h0.status, grown_le h0.size h0.most (Nat.le_refl _) (hexd_le hd), h0.most, h0.left, h0.frm, h0.nos⟩ _ (by rw [ht]; intro e; cases e) (by rw [ht]; intro e; cases e) (fun e => by rw [ht] at e; rcases e with e | e <;> cases e)
      · split
        · exact ok_refuse m
        · split
          · exact h0.same _ (by decide) (by decide) (fun _ => ⟨by decide, by decide, by decide⟩)
          · split
            · exact h0.same _ (by decide) (by decide) (fun e => by rcases e with e | e <;> cases e)
            · exact ok_refuse m
  | inExt =>
    show Ok (after (inExt m c))
    unfold inExt
    split
    · exact ok_fail m _ _
    · split
      · exact h0.same _ (by decide) (by decide) (fun _ => ⟨by decide, by decide, by decide⟩)
      · split
        · exact hsame (by rw [ht]; intro e; cases e) (by rw [ht]; intro e; cases e) ⟨(by rw [ht]; intro e; cases e), (by rw [ht]; intro e; cases e)⟩
        · exact ok_refuse m
  | blankA =>
    show Ok (after (blankA m c))
    unfold blankA
    split
    · exact h0.part .inStatus (.inr (hS ht)) (by decide) ⟨by decide, by decide⟩
    · exact ok_refuse m
  | inStatus =>
    show Ok (after (inStatus m c))
    obtain ⟨i1, i2⟩ := h.inS ht
    have i3 := h0.frm
    unfold inStatus
    split
    · exact ok_refuse m
    · rename_i hd
      have hd := dig_sub (by simpa using hd)
      have hst : m.status * 10 + (c.toNat - 48) ≤ 999 := by
        have : m.at_ - m.frm = 0 ∨ m.at_ - m.frm = 1 ∨ m.at_ - m.frm = 2 := by omega
        rcases this with e | e | e <;> rw [e] at i2 <;> omega
      split
      · rename_i h2
        refine ⟨⟨Nat.le_succ_of_le h0.word, Nat.le_succ_of_le h0.body, Nat.le_succ_of_le h0.heads, h0.lines, hst, h0.size, h0.most, h0.left, Nat.le_succ_of_le h0.frm, Nat.le_succ_of_le h0.nos⟩, (fun _ => ⟨by show m.at_ + 1 < m.frm + 3; omega, ?_⟩), (fun e => by change m.tk = _ at e; rw [ht] at e; cases e), (fun e => by change m.tk = _ ∨ m.tk = _ at e; rw [ht] at e; rcases e with e | e <;> cases e)⟩
        show m.status * 10 + (c.toNat - 48) < 10 ^ (m.at_ + 1 - m.frm)
        rw [show m.at_ + 1 - m.frm = (m.at_ - m.frm) + 1 by omega, Nat.pow_succ]
        omega
      · split
        · exact Ok0.same (m := { m with status := m.status * 10 + (c.toNat - 48) }) ⟨h0.word, h0.body, h0.heads, h0.lines, hst, h0.size, h0.most, h0.left, h0.frm, h0.nos⟩ _ (by decide) (by decide) (fun e => by rcases e with e | e <;> cases e)
        · exact ok_fail m _ _
  | blankB =>
    show Ok (after (blankB m c))
    unfold blankB
    split
    · exact h0.same _ (by decide) (by decide) (fun e => by rcases e with e | e <;> cases e)
    · exact ok_refuse m
  | inReason =>
    show Ok (after (inReason m c))
    unfold inReason
    split
    · exact h0.same _ (by decide) (by decide) (fun _ => ⟨by decide, by decide, by decide⟩)
    · split
      · exact hsame (by rw [ht]; intro e; cases e) (by rw [ht]; intro e; cases e) ⟨(by rw [ht]; intro e; cases e), (by rw [ht]; intro e; cases e)⟩
      · exact ok_refuse m
end Go.Wb
namespace Go.Wb
def early (t : Tk) (h : Th) : Bool := t == .ahead || t == .inMethod || t == .inTarget || t == .inVersion || t == .blankA || ((t == .lineFeed || t == .lineEnd) && h == .aheadAgain)
/-- Behind a state function: too early for a status, or it is nought. -/
def Nou (o : Out) : Prop := early o.1.1 o.1.2 = true → o.2.status = 0
theorem nou_fail (m : Msg) (a e : Nat) : Nou (fail m a e) := fun _ => rfl
theorem nou_refuse (m : Msg) : Nou (refuse m) := fun _ => rfl
theorem nou_late {o : Out} (h : early o.1.1 o.1.2 = false) : Nou o := fun e => absurd e (by rw [h]; decide)
theorem keep_status (m : Msg) (c : UInt8) : (keep m c).status = m.status := by unfold keep; split <;> rfl
theorem nou_headEnds (m : Msg) : Nou (headEnds m) := by
  unfold headEnds
  split
  · exact nou_fail _ _ _
  · split
    · exact nou_late rfl
    · split
      · exact nou_late rfl
      · exact nou_late rfl
theorem nou_thenDo (m : Msg) (t : Th) (h : t = .aheadAgain ∨ t = .requestLineEnds ∨ t = .statusFollows → m.status = 0) : Nou (thenDo t m) := by
  cases t with
  | no => exact nou_late rfl
  | aheadAgain => exact fun _ => h (.inl rfl)
  | headerLine => exact nou_late rfl
  | headerEnds => exact nou_late rfl
  | emptyLineEnds =>
    show Nou (emptyLineEnds m)
    unfold emptyLineEnds
    split
    · exact nou_late rfl
    · exact nou_headEnds _
  | requestLineEnds => exact fun _ => h (.inr (.inl rfl))
  | statusFollows => exact fun _ => h (.inr (.inr rfl))
  | sizeLine => exact nou_late rfl
  | sizeLineEnds =>
    show Nou (sizeLineEnds m)
    unfold sizeLineEnds
    split
    · exact nou_fail _ _ _
    · split
      · exact nou_late rfl
      · exact nou_late rfl
theorem nou_inMethod (m : Msg) (c : UInt8) (h : m.status = 0) : Nou (inMethod m c) := by
  unfold inMethod
  split
  · exact fun _ => (keep_status m c).trans h
  · split
    · exact fun _ => h
    · exact nou_refuse m
theorem nou_inName (m : Msg) (c : UInt8) : Nou (inName m c) := by
  unfold inName
  split
  · exact nou_late rfl
  · split
    · exact nou_late rfl
    · exact nou_refuse m
theorem nou_takeDo (m : Msg) (c : UInt8) (h : early m.tk m.th = true → m.status = 0) (hf : Ok m) : Nou (takeDo m.tk m c) := by
  cases ht : m.tk with
  | no => exact nou_late rfl
  | ahead =>
    have h0 := h (by rw [ht]; rfl)
    show Nou (ahead m c)
    unfold ahead
    split
    · exact fun _ => h0
    · exact nou_inMethod _ c h0
  | inMethod => exact nou_inMethod m c (h (by rw [ht]; rfl))
  | inTarget =>
    have h0 := h (by rw [ht]; rfl)
    show Nou (inTarget m c)
    unfold inTarget
    split
    · exact nou_refuse m
    · split
      · exact fun _ => h0
      · split
        · exact nou_refuse m
        · split
          · exact nou_fail _ _ _
          · exact fun _ => (keep_status m c).trans h0
  | inVersion =>
    have h0 := h (by rw [ht]; rfl)
    show Nou (inVersion m c)
    unfold inVersion
    split
    · exact nou_refuse m
    · split
      · exact fun _ => (keep_status m c).trans h0
      · split
        · exact nou_fail _ _ _
        · exact nou_thenDo _ _ fun _ => (keep_status m c).trans h0
  | lineEnd =>
    show Nou (lineEnd m c)
    unfold lineEnd
    split
    · intro e
      refine h ?_
      rw [ht]
      exact e
    · exact nou_refuse m
  | lineFeed =>
    show Nou (lineFeed m c)
    unfold lineFeed
    split
    · refine nou_thenDo m _ fun e => ?_
      have hn := (hf.feed (.inl ht))
      rcases e with e | e | e
      · exact h (by rw [ht, e]; rfl)
      · exact absurd e hn.2.1
      · exact absurd e hn.2.2
    · exact nou_refuse m
  | atLine =>
    show Nou (atLine m c)
    unfold atLine
    split
    · exact nou_late rfl
    · split
      · exact nou_fail _ _ _
      · exact nou_inName _ c
  | inName => exact nou_inName m c
  | inValue =>
    show Nou (inValue m c)
    unfold inValue
    split
    · exact nou_late rfl
    · split
      · exact nou_late (by rw [ht]; rfl)
      · split
        · exact nou_late (by rw [ht]; rfl)
        · exact nou_refuse m
  | inSize =>
    show Nou (inSize m c)
    unfold inSize
    split
    · exact nou_fail _ _ _
    · split
      · exact nou_late (by rw [ht]; rfl)
      · split
        · exact nou_refuse m
        · split
          · exact nou_late rfl
          · split
            · exact nou_late rfl
            · exact nou_refuse m
  | inExt =>
    show Nou (inExt m c)
    unfold inExt
    split
    · exact nou_fail _ _ _
    · split
      · exact nou_late rfl
      · split
        · exact nou_late (by rw [ht]; rfl)
        · exact nou_refuse m
  | blankA =>
    show Nou (blankA m c)
    unfold blankA
    split
    · exact nou_late rfl
    · exact nou_refuse m
  | inStatus =>
    show Nou (inStatus m c)
    unfold inStatus
    split
    · exact nou_refuse m
    · split
      · exact nou_late (by rw [ht]; rfl)
      · split
        · exact nou_late rfl
        · exact nou_fail _ _ _
  | blankB =>
    show Nou (blankB m c)
    unfold blankB
    split
    · exact nou_late rfl
    · exact nou_refuse m
  | inReason =>
    show Nou (inReason m c)
    unfold inReason
    split
    · exact nou_late rfl
    · split
      · exact nou_late (by rw [ht]; rfl)
      · exact nou_refuse m
/-- Behind a state function: bytes of a body are to come only where nothing else does, or a line's end. -/
def Bod (o : Out) : Prop := 0 < o.2.left → o.1.1 = .no ∨ o.1.1 = .lineEnd
theorem bod_fail (m : Msg) (a e : Nat) : Bod (fail m a e) := fun h => absurd h (Nat.lt_irrefl 0)
theorem bod_refuse (m : Msg) : Bod (refuse m) := fun h => absurd h (Nat.lt_irrefl 0)
theorem bod_of {o : Out} (h : o.2.left = 0) : Bod o := fun e => by rw [h] at e; exact absurd e (Nat.lt_irrefl 0)
theorem keep_left (m : Msg) (c : UInt8) : (keep m c).left = m.left := by unfold keep; split <;> rfl
theorem bod_headEnds (m : Msg) (h : m.left = 0) : Bod (headEnds m) := by
  unfold headEnds
  split
  · exact bod_fail _ _ _
  · split
    · exact bod_of h
    · split
      · exact bod_of h
      · exact fun _ => .inl rfl
theorem bod_thenDo (m : Msg) (t : Th) (h : m.left = 0) : Bod (thenDo t m) := by
  cases t with
  | headerEnds =>
    show Bod (headerEnds m)
    unfold headerEnds
    split <;> exact bod_of h
  | emptyLineEnds =>
    show Bod (emptyLineEnds m)
    unfold emptyLineEnds
    split
    · exact bod_of h
    · exact bod_headEnds _ h
  | sizeLineEnds =>
    show Bod (sizeLineEnds m)
    unfold sizeLineEnds
    split
    · exact bod_fail _ _ _
    · split
      · exact bod_of h
      · exact fun _ => .inr rfl
  | _ => exact bod_of h
theorem bod_inMethod (m : Msg) (c : UInt8) (h : m.left = 0) : Bod (inMethod m c) := by
  unfold inMethod
  split
  · exact bod_of ((keep_left m c).trans h)
  · split
    · exact bod_of h
    · exact bod_refuse m
theorem bod_inName (m : Msg) (c : UInt8) (h : m.left = 0) : Bod (inName m c) := by
  unfold inName
  split
  · exact bod_of ((keep_left m _).trans h)
  · split
    · exact bod_of h
    · exact bod_refuse m
theorem bod_takeDo (m : Msg) (c : UInt8) (h : m.left = 0) : Bod (takeDo m.tk m c) := by
  cases m.tk with
  | no => exact bod_of h
  | ahead =>
    show Bod (ahead m c)
    unfold ahead
    split
    · exact bod_of h
    · exact bod_inMethod _ c h
  | inMethod => exact bod_inMethod m c h
  | inTarget =>
    show Bod (inTarget m c)
    unfold inTarget
    repeat' split
    · exact bod_refuse m
    · exact bod_of h
    · exact bod_refuse m
    · exact bod_fail _ _ _
    · exact bod_of ((keep_left m _).trans h)
  | inVersion =>
    show Bod (inVersion m c)
    unfold inVersion
    repeat' split
    · exact bod_refuse m
    · exact bod_of ((keep_left m _).trans h)
    · exact bod_fail _ _ _
    · exact bod_thenDo _ _ ((keep_left m _).trans h)
  | lineEnd =>
    show Bod (lineEnd m c)
    unfold lineEnd
    split
    · exact bod_of h
    · exact bod_refuse m
  | lineFeed =>
    show Bod (lineFeed m c)
    unfold lineFeed
    split
    · exact bod_thenDo _ _ h
    · exact bod_refuse m
  | atLine =>
    show Bod (atLine m c)
    unfold atLine
    repeat' split
    · exact bod_of h
    · exact bod_fail _ _ _
    · exact bod_inName _ c h
  | inName => exact bod_inName m c h
  | inValue =>
    show Bod (inValue m c)
    unfold inValue
    repeat' split
    · exact bod_of h
    · exact bod_of h
    · exact bod_of ((keep_left m _).trans h)
    · exact bod_refuse m
  | inSize =>
    show Bod (inSize m c)
    unfold inSize
    repeat' split
    · exact bod_fail _ _ _
    · exact bod_of h
    · exact bod_refuse m
    · exact bod_of h
    · exact bod_of h
    · exact bod_refuse m
  | inExt =>
    show Bod (inExt m c)
    unfold inExt
    repeat' split
    · exact bod_fail _ _ _
    · exact bod_of h
    · exact bod_of h
    · exact bod_refuse m
  | blankA =>
    show Bod (blankA m c)
    unfold blankA
    split
    · exact bod_of h
    · exact bod_refuse m
  | inStatus =>
    show Bod (inStatus m c)
    unfold inStatus
    repeat' split
    · exact bod_refuse m
    · exact bod_of h
    · exact bod_of h
    · exact bod_fail _ _ _
  | blankB =>
    show Bod (blankB m c)
    unfold blankB
    split
    · exact bod_of h
    · exact bod_refuse m
  | inReason =>
    show Bod (inReason m c)
    unfold inReason
    repeat' split
    · exact bod_of h
    · exact bod_of h
    · exact bod_refuse m
/-- What every message keeps to. -/
structure Fit (m : Msg) : Prop where
  ok : Ok m
  nou : early m.tk m.th = true → m.status = 0
  bod : 0 < m.left → m.tk = .no ∨ m.tk = .lineEnd
theorem fit_zero : Fit zero := ⟨ok_zero, fun _ => rfl, fun h => absurd h (Nat.lt_irrefl 0)⟩
theorem fit_newReq (n : Nat) : Fit (newReq n) := ⟨⟨⟨Nat.zero_le _, Nat.zero_le _, Nat.zero_le _, Nat.zero_le _, Nat.zero_le _, Nat.zero_le _, (by show 6000 ≤ 999999999; omega), Nat.zero_le _, Nat.zero_le _, Nat.zero_le _⟩, (fun e => by cases e), (fun e => by cases e), (fun e => by rcases e with e | e <;> cases e)⟩, fun _ => rfl, fun h => absurd h (Nat.lt_irrefl 0)⟩
theorem fit_newRes : Fit newRes := ⟨⟨⟨Nat.zero_le _, Nat.zero_le _, Nat.zero_le _, Nat.zero_le _, Nat.zero_le _, Nat.zero_le _, Nat.le_refl _, Nat.zero_le _, Nat.zero_le _, Nat.zero_le _⟩, (fun e => by cases e), (fun _ => ⟨by show 0 < 8; omega, .inr rfl⟩), (fun e => by rcases e with e | e <;> cases e)⟩, fun _ => rfl, fun h => absurd h (Nat.lt_irrefl 0)⟩
theorem Fit.step {m : Msg} (h : Fit m) (c : UInt8) (hl : m.left = 0) : Fit (step m c) := by
  unfold Wb.step
  split
  · exact ⟨ok_faulty _ _, fun _ => rfl, fun h => absurd h (Nat.lt_irrefl 0)⟩
  · exact ⟨ok_takeDo h.ok c fun e => h.nou (by rw [e]; rfl), nou_takeDo m c h.nou h.ok, bod_takeDo m c hl⟩
theorem Fit.fill {m : Msg} (h : Fit m) (l : List UInt8) (hp : 0 < m.left) : Fit { m with body := m.body ++ l, left := m.left - l.length, at_ := m.at_ + l.length } := by
  have h0 := h.ok.ok
  have hb := h.bod hp
  refine ⟨⟨⟨?_, ?_, ?_, h0.lines, h0.status, h0.size, h0.most, ?_, ?_, ?_⟩, (fun e => by rcases hb with q | q <;> exact absurd (q.symm.trans e) (by decide)), (fun e => by rcases hb with q | q <;> exact absurd (q.symm.trans e) (by decide)), h.ok.feed⟩, h.nou, fun _ => hb⟩
  · have := h0.word; show m.word.length ≤ m.at_ + l.length; omega
  · have := h0.body; show (m.body ++ l).length ≤ m.at_ + l.length; rw [List.length_append]; omega
  · have := h0.heads; show m.headers.length ≤ m.at_ + l.length; omega
  · have := h0.left; show m.left - l.length ≤ 999999999; omega
  · have := h0.frm; show m.frm ≤ m.at_ + l.length; omega
  · have := h0.nos; show m.name.length ≤ m.at_ + l.length; omega
theorem Fit.bite {m : Msg} (h : Fit m) (c : UInt8) : Fit (bite m c) := by
  unfold Wb.bite
  split
  · rename_i hp
    exact h.fill [c] hp
  · exact h.step c (by omega)
end Go.Wb
namespace Go.Wb
def inHead (t : Tk) (h : Th) : Bool := match t with
  | .inMethod | .inTarget | .inVersion | .atLine | .inName | .inValue | .blankA | .inStatus | .blankB | .inReason => true
  | .lineFeed | .lineEnd => h == .headerLine || h == .headerEnds || h == .emptyLineEnds
  | _ => false
structure Sz (m : Msg) : Prop where
  heads : ∀ p ∈ m.headers, p.1.length ≤ 2048 ∧ p.2.length ≤ 2048
  name : m.name.length ≤ 2048
  hd : inHead m.tk m.th = true → (m.word.length : Int) + m.bound ≤ m.at_ + 2048 ∧ (m.at_ : Int) ≤ m.bound
  nh : inHead m.tk m.th = false → m.word = []
  tr : m.trailers = true → m.word = []
theorem Sz.word {m : Msg} (h : Sz m) : m.word.length ≤ 2048 := by
  cases e : inHead m.tk m.th with
  | true => have := h.hd e; omega
  | false => rw [h.nh e]; exact Nat.zero_le _
/-- In the midst of a step. -/
structure Mid (m : Msg) : Prop where
  heads : ∀ p ∈ m.headers, p.1.length ≤ 2048 ∧ p.2.length ≤ 2048
  name : m.name.length ≤ 2048
  wd : m.word.length ≤ 2048
  tr : m.trailers = true → m.word = []
def InH (m : Msg) : Prop := (m.word.length : Int) + m.bound ≤ m.at_ + 2048 ∧ (m.at_ : Int) < m.bound
theorem sz_fail (m : Msg) (a e : Nat) : Sz (after (fail m a e)) := ⟨(fun p hp => by cases hp), Nat.zero_le _, (fun e => by cases e), (fun _ => rfl), (fun e => by cases e)⟩
theorem sz_refuse (m : Msg) : Sz (after (refuse m)) := sz_fail m _ _
theorem Mid.head {m : Msg} (h : Mid m) (hi : InH m) (s : St) : inHead s.1 s.2 = true → Sz (after (s, m)) := fun e =>
  ⟨h.heads, h.name, (fun _ => ⟨by have := hi.1; show (m.word.length : Int) + m.bound ≤ ((m.at_ + 1 : Nat) : Int) + 2048; omega, by have := hi.2; show ((m.at_ + 1 : Nat) : Int) ≤ m.bound; omega⟩), (fun e' => by change inHead s.1 s.2 = false at e'; rw [e] at e'; cases e'), h.tr⟩
theorem Mid.none {m : Msg} (h : Mid m) (hw : m.word = []) (s : St) (e : inHead s.1 s.2 = false) : Sz (after (s, m)) :=
  ⟨h.heads, h.name, (fun e' => by change inHead s.1 s.2 = true at e'; rw [e] at e'; cases e'), (fun _ => hw), h.tr⟩
theorem Mid.partH {m : Msg} (h : Mid m) (hb : m.bound ≤ m.at_ + 1 + 2048 ∧ (m.at_ : Int) < m.bound) (t : Tk) (e : inHead t .no = true) : Sz (after (part m t)) :=
  ⟨h.heads, h.name, (fun _ => ⟨by show ((0 : Nat) : Int) + m.bound ≤ ((m.at_ + 1 : Nat) : Int) + 2048; omega, by show ((m.at_ + 1 : Nat) : Int) ≤ m.bound; omega⟩), (fun e' => by change inHead t .no = false at e'; rw [e] at e'; cases e'), (fun _ => rfl)⟩
theorem InH.bd {m : Msg} (h : InH m) : m.bound ≤ m.at_ + 1 + 2048 ∧ (m.at_ : Int) < m.bound := by have := h.1; have := h.2; exact ⟨by omega, h.2⟩
theorem Mid.keepH {m : Msg} (h : Mid m) (hi : InH m) (c : UInt8) (s : St) (e : inHead s.1 s.2 = true) : Sz (after (s, keep m c)) := by
  unfold keep
  split
  · exact h.head hi s e
  · rename_i ht
    refine ⟨h.heads, h.name, (fun _ => ⟨?_, by have := hi.2; show ((m.at_ + 1 : Nat) : Int) ≤ m.bound; omega⟩), (fun e' => by change inHead s.1 s.2 = false at e'; rw [e] at e'; cases e'), (fun e' => absurd e' ht)⟩
    have := hi.1
    show ((m.word ++ [c]).length : Int) + m.bound ≤ ((m.at_ + 1 : Nat) : Int) + 2048
    rw [List.length_append]
    simp only [List.length_singleton]
    omega
theorem trimR_len (l : List UInt8) : (trimR l).length ≤ l.length := by
  unfold trimR Lib.trimRightS
  rw [List.length_reverse]
  refine Nat.le_trans (List.dropWhile_sublist _).length_le ?_
  rw [List.length_reverse]
  exact Nat.le_refl _
theorem Mid.headEnds {m : Msg} (h : Mid m) (hw : m.word = []) : Sz (after (headEnds m)) := by
  unfold Wb.headEnds
  split
  · exact sz_fail _ _ _
  · split
    · exact Mid.none (m := { m with last := isLast m }) ⟨h.heads, h.name, h.wd, h.tr⟩ hw _ rfl
    · split
      · exact ⟨h.heads, h.name, (fun e => by cases e), (fun _ => rfl), (fun _ => rfl)⟩
      · exact Mid.none (m := { m with last := isLast m, left := (frame m).1 }) ⟨h.heads, h.name, h.wd, h.tr⟩ hw _ rfl
theorem Mid.thenDo {m : Msg} (h : Mid m) (t : Th) (hi : inHead .lineFeed t = true ∨ t = .requestLineEnds ∨ t = .statusFollows → InH m) (hn : inHead .lineFeed t = false → t = .aheadAgain ∨ t = .sizeLine ∨ t = .sizeLineEnds → m.word = []) (h0 : t ≠ .no) : Sz (after (Wb.thenDo t m)) := by
  cases t with
  | no => exact absurd rfl h0
  | aheadAgain => exact h.none (hn rfl (.inl rfl)) _ rfl
  | headerLine => exact h.partH (hi (.inl rfl)).bd .atLine rfl
  | headerEnds =>
    have hI := hi (.inl rfl)
    show Sz (after (headerEnds m))
    unfold headerEnds
    split
    · exact h.partH hI.bd .atLine rfl
    · refine Mid.partH (m := { m with headers := m.headers ++ [(m.name, trimR m.word)] }) ⟨fun p hp => ?_, h.name, h.wd, h.tr⟩ hI.bd .atLine rfl
      rcases List.mem_append.1 hp with hp | hp
      · exact h.heads p hp
      · rw [List.mem_singleton.1 hp]; exact ⟨h.name, Nat.le_trans (trimR_len _) h.wd⟩
  | emptyLineEnds =>
    show Sz (after (emptyLineEnds m))
    unfold emptyLineEnds
    split
    · rename_i ht; exact h.none (h.tr ht) _ rfl
    · exact Mid.headEnds (m := { m with bound := -1, word := [], name := [] }) ⟨h.heads, Nat.zero_le _, Nat.zero_le _, fun _ => rfl⟩ rfl
  | requestLineEnds => exact h.head (hi (.inr (.inl rfl))) _ rfl
  | statusFollows => exact h.head (hi (.inr (.inr rfl))) _ rfl
  | sizeLine => exact ⟨h.heads, h.name, (fun e => by cases e), (fun _ => rfl), (fun _ => rfl)⟩
  | sizeLineEnds =>
    have hw := hn rfl (.inr (.inr rfl))
    show Sz (after (sizeLineEnds m))
    unfold sizeLineEnds
    split
    · exact sz_fail _ _ _
    · split
      · refine Mid.partH (m := { m with trailers := true, lines := 0, bound := m.at_ + 1 + 2048 }) ⟨h.heads, h.name, h.wd, fun _ => hw⟩ ⟨?_, ?_⟩ .atLine rfl
        · show (m.at_ : Int) + 1 + 2048 ≤ (m.at_ : Int) + 1 + 2048; omega
        · show (m.at_ : Int) < (m.at_ : Int) + 1 + 2048; omega
      · exact Mid.none (m := { m with left := m.size }) ⟨h.heads, h.name, h.wd, h.tr⟩ hw _ rfl
theorem Mid.inMethod {m : Msg} (h : Mid m) (hi : InH m) (c : UInt8) : Sz (after (Wb.inMethod m c)) := by
  unfold Wb.inMethod
  split
  · exact h.keepH hi c _ rfl
  · split
    · exact Mid.partH (m := { m with method := m.word }) ⟨h.heads, h.name, h.wd, h.tr⟩ hi.bd .inTarget rfl
    · exact sz_refuse m
theorem Mid.inName {m : Msg} (h : Mid m) (hi : InH m) (c : UInt8) : Sz (after (Wb.inName m c)) := by
  unfold Wb.inName
  split
  · exact h.keepH hi _ _ rfl
  · split
    · exact Mid.partH (m := { m with name := m.word }) ⟨h.heads, h.wd, h.wd, h.tr⟩ hi.bd .inValue rfl
    · exact sz_refuse m
theorem Sz.takeDo {m : Msg} (h : Sz m) (c : UInt8) (hb : (m.at_ : Int) ≠ m.bound) (hok : Ok m) : Sz (after (takeDo m.tk m c)) := by
  have hM : Mid m := ⟨h.heads, h.name, h.word, h.tr⟩
  have hI : inHead m.tk m.th = true → InH m := fun e => by have := h.hd e; exact ⟨this.1, by omega⟩
  cases ht : m.tk with
  | no => exact hM.none (h.nh (by rw [ht]; rfl)) _ rfl
  | ahead =>
    have hw := h.nh (by rw [ht]; rfl)
    show Sz (after (ahead m c))
    unfold ahead
    split
    · exact hM.none hw _ rfl
    · refine Mid.inMethod (m := { m with bound := m.at_ + 2048 }) ⟨h.heads, h.name, h.word, h.tr⟩ ⟨?_, ?_⟩ c
      · show (m.word.length : Int) + ((m.at_ : Int) + 2048) ≤ (m.at_ : Int) + 2048
        rw [hw]; simp
      · show (m.at_ : Int) < (m.at_ : Int) + 2048; omega
  | inMethod => exact hM.inMethod (hI (by rw [ht]; rfl)) c
  | inTarget =>
    have hi := hI (by rw [ht]; rfl)
    show Sz (after (inTarget m c))
    unfold inTarget
    repeat' split
    · exact sz_refuse m
    · exact ⟨h.heads, h.name, (fun _ => ⟨by have := hi.1; show ((0 : Nat) : Int) + m.bound ≤ ((m.at_ + 1 : Nat) : Int) + 2048; omega, by have := hi.2; show ((m.at_ + 1 : Nat) : Int) ≤ m.bound; omega⟩), (fun e => by cases e), (fun _ => rfl)⟩
    · exact sz_refuse m
    · exact sz_fail _ _ _
    · exact hM.keepH hi c _ (by rw [ht]; rfl)
  | inVersion =>
    have hi := hI (by rw [ht]; rfl)
    have hv := (hok.ver ht).2
    show Sz (after (inVersion m c))
    unfold inVersion
    repeat' split
    · exact sz_refuse m
    · exact hM.keepH hi c _ (by rw [ht]; rfl)
    · exact sz_fail _ _ _
    · have hk := hM.keepH hi c (.atLine, .no) rfl
      rcases hv with e | e
      · rw [e]; exact ⟨hk.heads, hk.name, (fun _ => hk.hd rfl), (fun e => by cases e), hk.tr⟩
      · rw [e]; exact ⟨hk.heads, hk.name, (fun _ => hk.hd rfl), (fun e => by cases e), hk.tr⟩
  | lineEnd =>
    show Sz (after (lineEnd m c))
    unfold lineEnd
    split
    · have e2 : inHead .lineFeed m.th = inHead m.tk m.th := by rw [ht]; rfl
      cases e : inHead m.tk m.th with
      | true => exact hM.head (hI e) _ (by show inHead .lineFeed m.th = true; rw [e2, e])
      | false => exact hM.none (h.nh e) _ (by show inHead .lineFeed m.th = false; rw [e2, e])
    · exact sz_refuse m
  | lineFeed =>
    show Sz (after (lineFeed m c))
    unfold lineFeed
    have hf := hok.feed (.inl ht)
    split
    · refine hM.thenDo _ (fun e => ?_) (fun e _ => h.nh (by rw [ht]; exact e)) hf.1
      rcases e with e | e | e
      · exact hI (by rw [ht]; exact e)
      · exact absurd e hf.2.1
      · exact absurd e hf.2.2
    · exact sz_refuse m
  | atLine =>
    have hi := hI (by rw [ht]; rfl)
    show Sz (after (atLine m c))
    unfold atLine
    repeat' split
    · exact hM.head hi _ rfl
    · exact sz_fail _ _ _
    · exact Mid.inName (m := { m with lines := m.lines + 1 }) ⟨h.heads, h.name, h.word, h.tr⟩ hi c
  | inName => exact hM.inName (hI (by rw [ht]; rfl)) c
  | inValue =>
    have hi := hI (by rw [ht]; rfl)
    show Sz (after (inValue m c))
    unfold inValue
    repeat' split
    · exact hM.head hi _ rfl
    · exact hM.head hi _ (by rw [ht]; rfl)
    · exact hM.keepH hi c _ (by rw [ht]; rfl)
    · exact sz_refuse m
  | inSize =>
    have hw := h.nh (by rw [ht]; rfl)
    show Sz (after (inSize m c))
    unfold inSize
    repeat' split
    · exact sz_fail _ _ _
    · rename_i d _; exact Mid.none (m := { m with size := grown m.most m.size 16 d }) ⟨h.heads, h.name, h.word, h.tr⟩ hw (m.tk, m.th) (by rw [ht]; rfl)
    · exact sz_refuse m
    · exact hM.none hw _ rfl
    · exact hM.none hw _ rfl
    · exact sz_refuse m
  | inExt =>
    have hw := h.nh (by rw [ht]; rfl)
    show Sz (after (inExt m c))
    unfold inExt
    repeat' split
    · exact sz_fail _ _ _
    · exact hM.none hw _ rfl
    · exact hM.none hw _ (by rw [ht]; rfl)
    · exact sz_refuse m
  | blankA =>
    have hi := hI (by rw [ht]; rfl)
    show Sz (after (blankA m c))
    unfold blankA
    split
    · exact hM.partH hi.bd .inStatus rfl
    · exact sz_refuse m
  | inStatus =>
    have hi := hI (by rw [ht]; rfl)
    show Sz (after (inStatus m c))
    unfold inStatus
    repeat' split
    · exact sz_refuse m
    · exact Mid.head (m := { m with status := m.status * 10 + (c.toNat - 48) }) ⟨h.heads, h.name, h.word, h.tr⟩ hi (m.tk, m.th) (by rw [ht]; rfl)
    · exact Mid.head (m := { m with status := m.status * 10 + (c.toNat - 48) }) ⟨h.heads, h.name, h.word, h.tr⟩ hi (.blankB, .no) rfl
    · exact sz_fail _ _ _
  | blankB =>
    have hi := hI (by rw [ht]; rfl)
    show Sz (after (blankB m c))
    unfold blankB
    split
    · exact hM.head hi _ rfl
    · exact sz_refuse m
  | inReason =>
    have hi := hI (by rw [ht]; rfl)
    show Sz (after (inReason m c))
    unfold inReason
    repeat' split
    · exact hM.head hi _ rfl
    · exact hM.head hi _ (by rw [ht]; rfl)
    · exact sz_refuse m
/-- Behind a state function: behind bytes of a chunk a size line comes. -/
def Bod2 (o : Out) : Prop := 0 < o.2.left → o.1.1 = .lineEnd → o.1.2 = .sizeLine
theorem bodb_fail (m : Msg) (a e : Nat) : Bod2 (fail m a e) := fun h => absurd h (Nat.lt_irrefl 0)
theorem bodb_refuse (m : Msg) : Bod2 (refuse m) := fun h => absurd h (Nat.lt_irrefl 0)
theorem bodb_of {o : Out} (h : o.2.left = 0) : Bod2 o := fun e => by rw [h] at e; exact absurd e (Nat.lt_irrefl 0)
theorem bodb_headEnds (m : Msg) (h : m.left = 0) : Bod2 (headEnds m) := by
  unfold headEnds
  split
  · exact bodb_fail _ _ _
  · split
    · exact bodb_of h
    · split
      · exact bodb_of h
      · exact fun _ e => by cases e
theorem bodb_thenDo (m : Msg) (t : Th) (h : m.left = 0) : Bod2 (thenDo t m) := by
  cases t with
  | headerEnds =>
    show Bod2 (headerEnds m)
    unfold headerEnds
    split <;> exact bodb_of h
  | emptyLineEnds =>
    show Bod2 (emptyLineEnds m)
    unfold emptyLineEnds
    split
    · exact bodb_of h
    · exact bodb_headEnds _ h
  | sizeLineEnds =>
    show Bod2 (sizeLineEnds m)
    unfold sizeLineEnds
    split
    · exact bodb_fail _ _ _
    · split
      · exact bodb_of h
      · exact fun _ _ => rfl
  | _ => exact bodb_of h
theorem bodb_inMethod (m : Msg) (c : UInt8) (h : m.left = 0) : Bod2 (inMethod m c) := by
  unfold inMethod
  split
  · exact bodb_of ((keep_left m c).trans h)
  · split
    · exact bodb_of h
    · exact bodb_refuse m
theorem bodb_inName (m : Msg) (c : UInt8) (h : m.left = 0) : Bod2 (inName m c) := by
  unfold inName
  split
  · exact bodb_of ((keep_left m _).trans h)
  · split
    · exact bodb_of h
    · exact bodb_refuse m
theorem bodb_takeDo (m : Msg) (c : UInt8) (h : m.left = 0) : Bod2 (takeDo m.tk m c) := by
  cases m.tk with
  | no => exact bodb_of h
  | ahead =>
    show Bod2 (ahead m c)
    unfold ahead
    split
    · exact bodb_of h
    · exact bodb_inMethod _ c h
  | inMethod => exact bodb_inMethod m c h
  | inTarget =>
    show Bod2 (inTarget m c)
    unfold inTarget
    repeat' split
    · exact bodb_refuse m
    · exact bodb_of h
    · exact bodb_refuse m
    · exact bodb_fail _ _ _
    · exact bodb_of ((keep_left m _).trans h)
  | inVersion =>
    show Bod2 (inVersion m c)
    unfold inVersion
    repeat' split
    · exact bodb_refuse m
    · exact bodb_of ((keep_left m _).trans h)
    · exact bodb_fail _ _ _
    · exact bodb_thenDo _ _ ((keep_left m _).trans h)
  | lineEnd =>
    show Bod2 (lineEnd m c)
    unfold lineEnd
    split
    · exact bodb_of h
    · exact bodb_refuse m
  | lineFeed =>
    show Bod2 (lineFeed m c)
    unfold lineFeed
    split
    · exact bodb_thenDo _ _ h
    · exact bodb_refuse m
  | atLine =>
    show Bod2 (atLine m c)
    unfold atLine
    repeat' split
    · exact bodb_of h
    · exact bodb_fail _ _ _
    · exact bodb_inName _ c h
  | inName => exact bodb_inName m c h
  | inValue =>
    show Bod2 (inValue m c)
    unfold inValue
    repeat' split
    · exact bodb_of h
    · exact bodb_of h
    · exact bodb_of ((keep_left m _).trans h)
    · exact bodb_refuse m
  | inSize =>
    show Bod2 (inSize m c)
    unfold inSize
    repeat' split
    · exact bodb_fail _ _ _
    · exact bodb_of h
    · exact bodb_refuse m
    · exact bodb_of h
    · exact bodb_of h
    · exact bodb_refuse m
  | inExt =>
    show Bod2 (inExt m c)
    unfold inExt
    repeat' split
    · exact bodb_fail _ _ _
    · exact bodb_of h
    · exact bodb_of h
    · exact bodb_refuse m
  | blankA =>
    show Bod2 (blankA m c)
    unfold blankA
    split
    · exact bodb_of h
    · exact bodb_refuse m
  | inStatus =>
    show Bod2 (inStatus m c)
    unfold inStatus
    repeat' split
    · exact bodb_refuse m
    · exact bodb_of h
    · exact bodb_of h
    · exact bodb_fail _ _ _
  | blankB =>
    show Bod2 (blankB m c)
    unfold blankB
    split
    · exact bodb_of h
    · exact bodb_refuse m
  | inReason =>
    show Bod2 (inReason m c)
    unfold inReason
    repeat' split
    · exact bodb_of h
    · exact bodb_of h
    · exact bodb_refuse m
theorem sz_faulty (a e : Nat) : Sz (faulty a e) := ⟨(fun p hp => by cases hp), Nat.zero_le _, (fun e => by cases e), (fun _ => rfl), (fun e => by cases e)⟩
theorem Sz.step {m : Msg} (h : Sz m) (c : UInt8) (hok : Ok m) : Sz (step m c) := by
  unfold Wb.step
  split
  · exact sz_faulty _ _
  · rename_i hb; exact h.takeDo c hb hok
theorem Sz.fill {m : Msg} (h : Sz m) (hp : 0 < m.left) (hb : 0 < m.left → m.tk = .no ∨ m.tk = .lineEnd) (ht : m.tk = .lineEnd → m.th = .sizeLine) (bd : List UInt8) (l k : Nat) : Sz { m with body := bd, left := l, at_ := k } := by
  have hn : inHead m.tk m.th = false := by
    rcases hb hp with e | e
    · rw [e]; rfl
    · rw [e, ht e]; rfl
  exact ⟨h.heads, h.name, (fun e => by change inHead m.tk m.th = true at e; rw [hn] at e; cases e), (fun _ => h.nh hn), h.tr⟩
end Go.Wb
namespace Go.Wb
def Cur (t : Tk) (h : Th) : Bool := t == .inName || t == .inValue || ((t == .lineFeed || t == .lineEnd) && h == .headerEnds)
theorem nocur {t : Tk} {h : Th} (e : Cur t h = false) {P Q : Prop} : P → Cur t h = true → Q := fun _ e' => by rw [e] at e'; cases e'
structure Hl (m : Msg) : Prop where
  le : m.headers.length ≤ 32
  ln : m.trailers = false → m.headers.length ≤ m.lines
  cur : m.trailers = false → Cur m.tk m.th = true → m.headers.length + 1 ≤ m.lines
theorem hlx (o : Out) (le : o.2.headers.length ≤ 32) (ln : o.2.trailers = false → o.2.headers.length ≤ o.2.lines) (cur : o.2.trailers = false → Cur o.1.1 o.1.2 = true → o.2.headers.length + 1 ≤ o.2.lines) : Hl (after o) := ⟨le, ln, cur⟩
theorem hl_fail (m : Msg) (a e : Nat) : Hl (after (fail m a e)) := ⟨Nat.zero_le _, fun _ => Nat.zero_le _, nocur rfl⟩
theorem hl_refuse (m : Msg) : Hl (after (refuse m)) := hl_fail m _ _
theorem keep_heads (m : Msg) (c : UInt8) : (keep m c).headers = m.headers ∧ (keep m c).lines = m.lines ∧ (keep m c).trailers = m.trailers := by unfold keep; split <;> exact ⟨rfl, rfl, rfl⟩
theorem hl_keep {m : Msg} (le : m.headers.length ≤ 32) (ln : m.trailers = false → m.headers.length ≤ m.lines) (c : UInt8) (s : St) (cur : m.trailers = false → Cur s.1 s.2 = true → m.headers.length + 1 ≤ m.lines) : Hl (after (s, keep m c)) := by
  obtain ⟨e1, e2, e3⟩ := keep_heads m c
  exact hlx (s, keep m c) (by show (keep m c).headers.length ≤ 32; rw [e1]; exact le) (by show (keep m c).trailers = false → (keep m c).headers.length ≤ (keep m c).lines; rw [e1, e2, e3]; exact ln) (by show (keep m c).trailers = false → Cur s.1 s.2 = true → (keep m c).headers.length + 1 ≤ (keep m c).lines; rw [e1, e2, e3]; exact cur)
theorem hl_headEnds {m : Msg} (le : m.headers.length ≤ 32) (ln : m.trailers = false → m.headers.length ≤ m.lines) : Hl (after (headEnds m)) := by
  unfold headEnds
  repeat' split
  · exact hl_fail _ _ _
  · exact hlx ((.no, .no), { m with last := isLast m }) le ln (nocur rfl)
  · exact hlx (sizeLine { m with last := isLast m }) le ln (nocur rfl)
  · exact hlx ((.no, .no), { m with last := isLast m, left := (frame m).1 }) le ln (nocur rfl)
theorem hl_thenDo {m : Msg} (le : m.headers.length ≤ 32) (ln : m.trailers = false → m.headers.length ≤ m.lines) (hli : m.lines ≤ 32) (t : Th) (cur : t = .headerEnds → m.trailers = false → m.headers.length + 1 ≤ m.lines) : Hl (after (thenDo t m)) := by
  cases t with
  | no => exact hlx (_, m) le ln (nocur rfl)
  | aheadAgain => exact hlx (_, m) le ln (nocur rfl)
  | headerLine => exact hlx (headerLine m) le ln (nocur rfl)
  | headerEnds =>
    show Hl (after (headerEnds m))
    unfold headerEnds
    split
    · exact hlx (headerLine m) le ln (nocur rfl)
    · rename_i ht
      have hc := cur rfl (Bool.eq_false_iff.2 ht)
      refine hlx (headerLine { m with headers := m.headers ++ [(m.name, trimR m.word)] }) ?_ (fun _ => ?_) (nocur rfl)
      · show (m.headers ++ [(m.name, trimR m.word)]).length ≤ 32
        rw [List.length_append]; simp only [List.length_singleton]; omega
      · show (m.headers ++ [(m.name, trimR m.word)]).length ≤ m.lines
        rw [List.length_append]; simp only [List.length_singleton]; omega
  | emptyLineEnds =>
    show Hl (after (emptyLineEnds m))
    unfold emptyLineEnds
    split
    · exact hlx (_, m) le ln (nocur rfl)
    · exact hl_headEnds (m := { m with bound := -1, word := [], name := [] }) le ln
  | requestLineEnds => exact hlx (_, m) le ln (nocur rfl)
  | statusFollows => exact hlx (_, m) le ln (nocur rfl)
  | sizeLine => exact hlx (sizeLine m) le ln (nocur rfl)
  | sizeLineEnds =>
    show Hl (after (sizeLineEnds m))
    unfold sizeLineEnds
    repeat' split
    · exact hl_fail _ _ _
    · exact hlx (headerLine { m with trailers := true, lines := 0, bound := m.at_ + 1 + 2048 }) le (fun e => by cases e) (nocur rfl)
    · exact hlx (_, { m with left := m.size }) le ln (nocur rfl)
theorem hl_inMethod {m : Msg} (le : m.headers.length ≤ 32) (ln : m.trailers = false → m.headers.length ≤ m.lines) (c : UInt8) : Hl (after (inMethod m c)) := by
  unfold inMethod
  repeat' split
  · exact hl_keep le ln c _ (nocur rfl)
  · exact hlx (part { m with method := m.word } .inTarget) le ln (nocur rfl)
  · exact hl_refuse m
theorem hl_inName {m : Msg} (le : m.headers.length ≤ 32) (ln : m.trailers = false → m.headers.length ≤ m.lines) (cur : m.trailers = false → m.headers.length + 1 ≤ m.lines) (c : UInt8) : Hl (after (inName m c)) := by
  unfold inName
  repeat' split
  · exact hl_keep le ln _ _ (fun e _ => cur e)
  · exact hlx (part { m with name := m.word } .inValue) le ln (fun e _ => cur e)
  · exact hl_refuse m
theorem Hl.takeDo {m : Msg} (h : Hl m) (hli : m.lines ≤ 32) (c : UInt8) (hok : Ok m) : Hl (after (takeDo m.tk m c)) := by
  have le := h.le
  have ln := h.ln
  cases ht : m.tk with
  | no => exact hlx (_, m) le ln (nocur rfl)
  | ahead =>
    show Hl (after (ahead m c))
    unfold ahead
    split
    · exact hlx (_, m) le ln (nocur rfl)
    · exact hl_inMethod (m := { m with bound := m.at_ + 2048 }) le ln c
  | inMethod => exact hl_inMethod le ln c
  | inTarget =>
    show Hl (after (inTarget m c))
    unfold inTarget
    repeat' split
    · exact hl_refuse m
    · exact hlx (_, (part { m with target := m.word } .inVersion).2) le ln (nocur rfl)
    · exact hl_refuse m
    · exact hl_fail _ _ _
    · exact hl_keep le ln c _ (nocur (by rw [ht]; rfl))
  | inVersion =>
    have hv := (hok.ver ht).2
    obtain ⟨e1, e2, e3⟩ := keep_heads m c
    show Hl (after (inVersion m c))
    unfold inVersion
    repeat' split
    · exact hl_refuse m
    · exact hl_keep le ln c _ (nocur (by rw [ht]; rfl))
    · exact hl_fail _ _ _
    · exact hl_thenDo (m := { keep m c with newer := decide ((keep m c).word = wNewer) }) (by show (keep m c).headers.length ≤ 32; rw [e1]; exact le) (by show (keep m c).trailers = false → (keep m c).headers.length ≤ (keep m c).lines; rw [e1, e2, e3]; exact ln) (by show (keep m c).lines ≤ 32; rw [e2]; exact hli) _ (fun e => by rcases hv with q | q <;> rw [q] at e <;> cases e)
  | lineEnd =>
    show Hl (after (lineEnd m c))
    unfold lineEnd
    split
    · exact hlx ((.lineFeed, m.th), m) le ln (fun e e' => h.cur e (by rw [ht]; exact e'))
    · exact hl_refuse m
  | lineFeed =>
    show Hl (after (lineFeed m c))
    unfold lineFeed
    split
    · exact hl_thenDo le ln hli _ (fun e e' => h.cur e' (by rw [ht, e]; rfl))
    · exact hl_refuse m
  | atLine =>
    show Hl (after (atLine m c))
    unfold atLine
    repeat' split
    · exact hlx (_, m) le ln (nocur rfl)
    · exact hl_fail _ _ _
    · exact hl_inName (m := { m with lines := m.lines + 1 }) le (fun e => Nat.le_succ_of_le (ln e)) (fun e => Nat.succ_le_succ (ln e)) c
  | inName => exact hl_inName le ln (fun e => h.cur e (by rw [ht]; rfl)) c
  | inValue =>
    have cu : m.trailers = false → m.headers.length + 1 ≤ m.lines := fun e => h.cur e (by rw [ht]; rfl)
    show Hl (after (inValue m c))
    unfold inValue
    repeat' split
    · exact hlx (_, m) le ln (fun e _ => cu e)
    · exact hlx (_, m) le ln (fun e _ => cu e)
    · exact hl_keep le ln c _ (fun e _ => cu e)
    · exact hl_refuse m
  | inSize =>
    show Hl (after (inSize m c))
    unfold inSize
    repeat' split
    · exact hl_fail _ _ _
    · rename_i d _; exact hlx (_, { m with size := grown m.most m.size 16 d }) le ln (nocur (by rw [ht]; rfl))
    · exact hl_refuse m
    · exact hlx (_, m) le ln (nocur rfl)
    · exact hlx (_, m) le ln (nocur rfl)
    · exact hl_refuse m
  | inExt =>
    show Hl (after (inExt m c))
    unfold inExt
    repeat' split
    · exact hl_fail _ _ _
    · exact hlx (_, m) le ln (nocur rfl)
    · exact hlx (_, m) le ln (nocur (by rw [ht]; rfl))
    · exact hl_refuse m
  | blankA =>
    show Hl (after (blankA m c))
    unfold blankA
    split
    · exact hlx (part m .inStatus) le ln (nocur rfl)
    · exact hl_refuse m
  | inStatus =>
    show Hl (after (inStatus m c))
    unfold inStatus
    repeat' split
    · exact hl_refuse m
    · exact hlx (_, { m with status := m.status * 10 + (c.toNat - 48) }) le ln (nocur (by rw [ht]; rfl))
    · exact hlx ((.blankB, .no), { m with status := m.status * 10 + (c.toNat - 48) }) le ln (nocur rfl)
    · exact hl_fail _ _ _
  | blankB =>
    show Hl (after (blankB m c))
    unfold blankB
    split
    · exact hlx (_, m) le ln (nocur rfl)
    · exact hl_refuse m
  | inReason =>
    show Hl (after (inReason m c))
    unfold inReason
    repeat' split
    · exact hlx (_, m) le ln (nocur rfl)
    · exact hlx (_, m) le ln (nocur (by rw [ht]; rfl))
    · exact hl_refuse m
/-- All of it. -/
structure Good (m : Msg) : Prop where
  fit : Fit m
  sz : Sz m
  hl : Hl m
  lef : 0 < m.left → m.tk = .lineEnd → m.th = .sizeLine
theorem good_zero : Good zero := ⟨fit_zero, sz_faulty 0 0, ⟨Nat.zero_le _, fun _ => Nat.zero_le _, nocur rfl⟩, fun h => absurd h (Nat.lt_irrefl 0)⟩
theorem good_newReq (n : Nat) : Good (newReq n) := ⟨fit_newReq n, ⟨(fun p hp => by cases hp), Nat.zero_le _, (fun e => by cases e), (fun _ => rfl), (fun e => by cases e)⟩, ⟨Nat.zero_le _, fun _ => Nat.zero_le _, nocur rfl⟩, fun h => absurd h (Nat.lt_irrefl 0)⟩
theorem good_newRes : Good newRes := ⟨fit_newRes, ⟨(fun p hp => by cases hp), Nat.zero_le _, (fun _ => ⟨by show ((0 : Nat) : Int) + 2048 ≤ ((0 : Nat) : Int) + 2048; omega, by show ((0 : Nat) : Int) ≤ 2048; omega⟩), (fun e => by cases e), (fun e => by cases e)⟩, ⟨Nat.zero_le _, fun _ => Nat.zero_le _, nocur rfl⟩, fun h => absurd h (Nat.lt_irrefl 0)⟩
theorem Good.step {m : Msg} (h : Good m) (c : UInt8) (hl : m.left = 0) : Good (step m c) := by
  refine ⟨h.fit.step c hl, h.sz.step c h.fit.ok, ?_, ?_⟩
  · unfold Wb.step
    split
    · exact ⟨Nat.zero_le _, fun _ => Nat.zero_le _, nocur rfl⟩
    · exact h.hl.takeDo h.fit.ok.ok.lines c h.fit.ok
  · unfold Wb.step
    split
    · exact fun h => absurd h (Nat.lt_irrefl 0)
    · exact bodb_takeDo m c hl
theorem Good.fill {m : Msg} (h : Good m) (l : List UInt8) (hp : 0 < m.left) : Good { m with body := m.body ++ l, left := m.left - l.length, at_ := m.at_ + l.length } :=
  ⟨h.fit.fill l hp, h.sz.fill hp h.fit.bod (h.lef hp) _ _ _, ⟨h.hl.le, h.hl.ln, h.hl.cur⟩, fun _ => h.lef hp⟩
theorem Good.bite {m : Msg} (h : Good m) (c : UInt8) : Good (bite m c) := by
  unfold Wb.bite
  split
  · rename_i hp; exact h.fill [c] hp
  · exact h.step c (by omega)
theorem Good.goOn {m : Msg} (_ : Good m) : Good (goOn m) := by
  unfold Wb.goOn
  split
  · exact good_zero
  · exact good_newReq _
theorem keep_at (m : Msg) (c : UInt8) : (keep m c).at_ = m.at_ := by unfold keep; split <;> rfl
def At (m : Msg) (o : Out) : Prop := o.2.at_ = m.at_ ∨ o.2.at_ = 0
theorem at_headEnds (m : Msg) : At m (headEnds m) := by unfold headEnds; (repeat' split); all_goals first | exact .inl rfl | exact .inr rfl
theorem at_thenDo (m : Msg) (t : Th) : At m (thenDo t m) := by
  cases t with
  | headerEnds => show At m (headerEnds m); unfold headerEnds; split <;> exact .inl rfl
  | emptyLineEnds => show At m (emptyLineEnds m); unfold emptyLineEnds; split; exact .inl rfl; exact at_headEnds { m with bound := -1, word := [], name := [] }
  | sizeLineEnds => show At m (sizeLineEnds m); unfold sizeLineEnds; (repeat' split); all_goals first | exact .inl rfl | exact .inr rfl
  | _ => exact .inl rfl
theorem at_inMethod (m : Msg) (c : UInt8) : At m (inMethod m c) := by
  unfold inMethod
  repeat' split
  · exact .inl (keep_at m c)
  · exact .inl rfl
  · exact .inr rfl
theorem at_inName (m : Msg) (c : UInt8) : At m (inName m c) := by
  unfold inName
  repeat' split
  · exact .inl (keep_at m _)
  · exact .inl rfl
  · exact .inr rfl
theorem at_takeDo (m : Msg) (t : Tk) (c : UInt8) : At m (takeDo t m c) := by
  cases t with
  | no => exact .inl rfl
  | ahead => show At m (ahead m c); unfold ahead; split; exact .inl rfl; exact at_inMethod { m with bound := m.at_ + 2048 } c
  | inMethod => exact at_inMethod m c
  | inTarget => show At m (inTarget m c); unfold inTarget; (repeat' split); all_goals first | exact .inl rfl | exact .inr rfl | exact .inl (keep_at m c)
  | inVersion =>
    show At m (inVersion m c)
    unfold inVersion
    repeat' split
    · exact .inr rfl
    · exact .inl (keep_at m c)
    · exact .inr rfl
    · have := at_thenDo { keep m c with newer := decide ((keep m c).word = wNewer) } m.th
      rcases this with e | e
      · exact .inl (e.trans (keep_at m c))
      · exact .inr e
  | lineEnd => show At m (lineEnd m c); unfold lineEnd; split; exact .inl rfl; exact .inr rfl
  | lineFeed => show At m (lineFeed m c); unfold lineFeed; split; exact at_thenDo m _; exact .inr rfl
  | atLine => show At m (atLine m c); unfold atLine; (repeat' split); exact .inl rfl; exact .inr rfl; exact at_inName { m with lines := m.lines + 1 } c
  | inName => exact at_inName m c
  | inValue => show At m (inValue m c); unfold inValue; (repeat' split); all_goals first | exact .inl rfl | exact .inr rfl | exact .inl (keep_at m c)
  | inSize => show At m (inSize m c); unfold inSize; (repeat' split); all_goals first | exact .inl rfl | exact .inr rfl
  | inExt => show At m (inExt m c); unfold inExt; (repeat' split); all_goals first | exact .inl rfl | exact .inr rfl
  | blankA => show At m (blankA m c); unfold blankA; split; exact .inl rfl; exact .inr rfl
  | inStatus => show At m (inStatus m c); unfold inStatus; (repeat' split); all_goals first | exact .inl rfl | exact .inr rfl
  | blankB => show At m (blankB m c); unfold blankB; split; exact .inl rfl; exact .inr rfl
  | inReason => show At m (inReason m c); unfold inReason; (repeat' split); all_goals first | exact .inl rfl | exact .inr rfl
theorem step_at (m : Msg) (c : UInt8) : (step m c).at_ ≤ m.at_ + 1 := by
  unfold step
  split
  · exact Nat.zero_le _
  · show (takeDo m.tk m c).2.at_ + 1 ≤ m.at_ + 1
    rcases at_takeDo m m.tk c with e | e <;> omega
theorem bite_at (m : Msg) (c : UInt8) : (bite m c).at_ ≤ m.at_ + 1 := by
  unfold bite
  split
  · exact Nat.le_refl _
  · exact step_at m c
end Go.Wb
