/-
  GLOB: the plain functions, as the Go text reckons them. Nothing of the program.
-/
import Derived.Test.YtjfhpgafglmhdabDoorPlain
namespace Go.Gl
/-- A part. -/
inductive P where
  | fix (r : Nat)
  | one
  | any
deriving DecidableEq
def P.kind : P → Int
  | .fix _ => 0
  | .one => 1
  | .any => 2
def P.sign : P → Int
  | .fix r => r
  | .one => 0
  | .any => 0
/-- A part's cells. -/
def P.cells (p : P) : List Value := [.int .i64 p.kind, .int .i32 p.sign]
def cellsOf : List P → List Value
  | [] => []
  | p :: r => .int .i64 p.kind :: .int .i32 p.sign :: cellsOf r
/-- 'join'. -/
def join (ps : List P) (p : P) : List P :=
  if ps.getLast? = some .any then
    (match p with
    | .fix r => ps ++ [.fix r]
    | .one => ps.dropLast ++ [.one, .any]
    | .any => ps)
  else ps ++ [p]
def special (r : Nat) : Bool := r == 42 || r == 63 || r == 92
/-- 'read', from a state on. -/
def rd : List P → Bool → List Nat → List P × Bool
  | ps, e, [] => (ps, !e)
  | ps, e, r :: rs =>
    if e && !special r then ([], false)
    else if !e && r == 92 then rd ps true rs
    else if !e && r == 42 then rd (join ps .any) false rs
    else if !e && r == 63 then rd (join ps .one) false rs
    else rd (join ps (.fix r)) false rs
/-- The signs of a text. -/
def rnFrom (s : ByteArray) : Nat → Nat → List Nat
  | 0, _ => []
  | f + 1, pos => if pos < s.size then (Utf8.decode s pos).1 :: rnFrom s f (pos + (Utf8.decode s pos).2) else []
def rns (s : ByteArray) : List Nat := rnFrom s s.size 0
/-- 'Compile': the parts. -/
def comp (s : ByteArray) : Option (List P) :=
  if 100 < s.size then none
  else if Sg.valid s = false then none
  else if (rd [] false (rns (Sg.fold s))).2 = true then some (rd [] false (rns (Sg.fold s))).1 else none
/-- 'spread'. -/
def spF (ps : List P) (f : Nat → Bool) : Nat → Bool
  | 0 => f 0
  | n + 1 => f (n + 1) || (decide (ps[n]? = some .any) && spF ps f n)
/-- What 'pass' does ahead of 'spread'. -/
def paF (ps : List P) (f : Nat → Bool) (c : Nat) : Nat → Bool
  | 0 => false
  | n + 1 =>
    match ps[n]? with
    | some .any => f (n + 1)
    | some .one => f n
    | some (.fix q) => f n && c == q
    | none => f (n + 1)
def bg (ps : List P) (f : Nat → Bool) : Nat → Bool := spF ps (fun n => n == 0 || f n)
def pass (ps : List P) (f : Nat → Bool) (c : Nat) : Nat → Bool := spF ps (paF ps f c)
def passAll (ps : List P) : List Nat → (Nat → Bool) → (Nat → Bool)
  | [], f => f
  | c :: r, f => passAll ps r (pass ps f c)
/-- 'Whole'. -/
def wholeB (ps : List P) (t : ByteArray) : Bool := Sg.valid t && passAll ps (rns (Sg.fold t)) (bg ps fun _ => false) ps.length
/-- 'Within', from a state on (F: the text in small letters). -/
def wiFrom (ps : List P) (t F : ByteArray) : Nat → Nat → (Nat → Bool) → Bool
  | 0, _, f => bg ps f ps.length
  | n + 1, pos, f =>
    if pos < F.size then
      (if Sg.edgeN t pos = true then
        (if bg ps f ps.length = true then true
         else wiFrom ps t F n (pos + (Utf8.decode F pos).2) (pass ps (bg ps f) (Utf8.decode F pos).1))
       else wiFrom ps t F n (pos + (Utf8.decode F pos).2) (pass ps f (Utf8.decode F pos).1))
    else bg ps f ps.length
def withinB (ps : List P) (t : ByteArray) : Bool := Sg.valid t && wiFrom ps t (Sg.fold t) (Sg.fold t).size 0 fun _ => false
/-- 'Front', 'Literal', 'String'. -/
def front : List P → List UInt8
  | .fix r :: ps => Lib.encodeRune r ++ front ps
  | _ => []
def isFix : P → Bool
  | .fix _ => true
  | _ => false
def strOf : List P → List UInt8
  | [] => []
  | .any :: ps => 42 :: strOf ps
  | .one :: ps => 63 :: strOf ps
  | .fix r :: ps => (if special r then [92] else []) ++ Lib.encodeRune r ++ strOf ps
end Go.Gl
