/-
  THE PLAIN FUNCTIONS of the layer jsonval, as the Go text reckons them: the reader. Nothing of the program.
-/
import Derived.WalkKit
import Derived.Lib.RuneBytes
import Derived.Lib.DecodeN
import Derived.Lib.DecodeNEq
import Derived.Shelf.Unicode.DecodeSlow
import Derived.Lib.Strings
import Derived.Lib.ParseIntB
import Derived.Shelf.Spec.SearchS
namespace Go.Jv
/-- A value. -/
inductive V where
  | null
  | bool (b : Bool)
  | int (n : Int)
  | text (s : ByteArray)
  | list (l : List V)
  | obj (ks : List ByteArray) (l : List V)
/-- What a part of the reader answers: a fault (its place, its number), or a thing. -/
inductive R (α : Type) where
  | bad (p e : Nat)
  | ok (a : α)
deriving DecidableEq
@[inline] def R.bind {α β : Type} : R α → (α → R β) → R β
  | .bad p e, _ => .bad p e
  | .ok a, f => f a
def eSyntax : Nat := 20
def eDepth : Nat := 21
def eSize : Nat := 22
def eNumber : Nat := 23
def eTwice : Nat := 24
def eUtf8 : Nat := 10
def isBlank (c : UInt8) : Bool := decide (c.toNat = 32 ∨ c.toNat = 9 ∨ c.toNat = 10 ∨ c.toNat = 13)
def isLetter (c : UInt8) : Bool := decide ((97 ≤ c.toNat ∧ c.toNat ≤ 122) ∨ (65 ≤ c.toNat ∧ c.toNat ≤ 90))
def isDigit (c : UInt8) : Bool := decide (48 ≤ c.toNat ∧ c.toNat ≤ 57)
def isOfNumber (c : UInt8) : Bool := decide ((48 ≤ c.toNat ∧ c.toNat ≤ 57) ∨ c.toNat = 43 ∨ c.toNat = 45 ∨ c.toNat = 46 ∨ c.toNat = 101 ∨ c.toNat = 69)
/-- 'run': the place behind all bytes of a kind. -/
def runTo (f : UInt8 → Bool) (t : ByteArray) : Nat → Nat → Nat
  | 0, p => p
  | n + 1, p => if p < t.size ∧ f (t.get! p) = true then runTo f t n (p + 1) else p
def run (f : UInt8 → Bool) (t : ByteArray) (p : Nat) : Nat := runTo f t (t.size - p) p
def blanks (t : ByteArray) (p : Nat) : Nat := run isBlank t p
/-- 'next'. -/
def next (t : ByteArray) (p : Nat) : R UInt8 := if p < t.size then .ok (t.get! p) else .bad p eSyntax
/-- 'take'. -/
def take (t : ByteArray) (p : Nat) (c : UInt8) : R Nat := if p < t.size ∧ t.get! p = c then .ok (p + 1) else .bad p eSyntax
def sub (t : ByteArray) (a b : Nat) : ByteArray := t.extract a b
/-- 'word'. -/
def word (t : ByteArray) (p : Nat) : R (V × Nat) :=
  let q := run isLetter t p
  let s := (sub t p q).data.toList
  if s = [110, 117, 108, 108] then .ok (.null, q)
  else if s = [116, 114, 117, 101] then .ok (.bool true, q)
  else if s = [102, 97, 108, 115, 101] then .ok (.bool false, q)
  else .bad p eSyntax
/-- The digits with which a text begins; what follows. -/
def dg1 (s : ByteArray) : ByteArray := ⟨(s.data.toList.takeWhile isDigit).toArray⟩
def dg2 (s : ByteArray) : ByteArray := ⟨(s.data.toList.dropWhile isDigit).toArray⟩
def tail1 (s : ByteArray) : ByteArray := s.extract 1 s.size
def pre (s : ByteArray) (c : UInt8) : Bool := Lib.hasPrefix s.data.toList [c]
def emp : ByteArray := ⟨#[]⟩
def nought : ByteArray := ⟨#[48]⟩
/-- 'isNumber', behind the power; part: what stood behind the point. -/
def num3 (part power rest : ByteArray) : Bool := decide (part ≠ emp ∧ power ≠ emp ∧ rest = emp)
/-- 'isNumber', behind the point. -/
def num2 (part rest : ByteArray) : Bool :=
  if pre rest 101 = true ∨ pre rest 69 = true then
    (if pre (tail1 rest) 43 = true ∨ pre (tail1 rest) 45 = true then num3 part (dg1 (tail1 (tail1 rest))) (dg2 (tail1 (tail1 rest)))
     else num3 part (dg1 (tail1 rest)) (dg2 (tail1 rest)))
  else num3 part nought rest
/-- 'isNumber', behind the whole digits. -/
def num1 (rest : ByteArray) : Bool := if pre rest 46 = true then num2 (dg1 (tail1 rest)) (dg2 (tail1 rest)) else num2 nought rest
def trim (s : ByteArray) : ByteArray := ⟨(Lib.trimPrefix s.data.toList [45]).toArray⟩
/-- 'isNumber'. -/
def isNumber (s : ByteArray) : Bool :=
  if dg1 (trim s) = emp then false
  else if 1 < (dg1 (trim s)).size ∧ (dg1 (trim s)).get! 0 = 48 then false
  else num1 (dg2 (trim s))
def maxInt : Int := 9007199254740991
/-- The number, if it is one. -/
def numOf (s : ByteArray) : Option Int :=
  match Lib.parseIntB 64 s.data.toList with
  | .ok n => if -maxInt ≤ n ∧ n ≤ maxInt then some n else none
  | _ => none
def number (t : ByteArray) (p : Nat) : R (V × Nat) :=
  let q := run isOfNumber t p
  if isNumber (sub t p q) = true then
    match numOf (sub t p q) with
    | some n => .ok (.int n, q)
    | none => .bad p eNumber
  else .bad p eSyntax
def hexOf (c : UInt8) : Option Nat :=
  if 48 ≤ c.toNat ∧ c.toNat ≤ 57 then some (c.toNat - 48) else if 97 ≤ c.toNat ∧ c.toNat ≤ 102 then some (c.toNat - 87) else if 65 ≤ c.toNat ∧ c.toNat ≤ 70 then some (c.toNat - 55) else none
/-- 'unit', from its i-th byte on: the number, so far n. -/
def unitFrom (t : ByteArray) (fr : Nat) : Nat → Nat → Nat → R Nat
  | 0, _, n => .ok n
  | k + 1, p, n =>
    if p < t.size then
      (if k = 5 then (if t.get! p = 92 then unitFrom t fr k (p + 1) n else .bad fr eSyntax)
       else if k = 4 then (if t.get! p = 117 then unitFrom t fr k (p + 1) n else .bad fr eSyntax)
       else match hexOf (t.get! p) with
        | some d => unitFrom t fr k (p + 1) (16 * n + d)
        | none => .bad fr eSyntax)
    else .bad p eSyntax
def unit (t : ByteArray) (fr p : Nat) : R Nat := unitFrom t fr 6 p 0
def escOf (c : UInt8) : Option UInt8 :=
  if c = 34 then some 34 else if c = 92 then some 92 else if c = 47 then some 47 else if c = 98 then some 8 else if c = 102 then some 12
  else if c = 110 then some 10 else if c = 114 then some 13 else if c = 116 then some 9 else none
/-- 'escape': the rune, and the place behind it. -/
def escape (t : ByteArray) (p : Nat) : R (Nat × Nat) :=
  (next t (p + 1)).bind fun c =>
    match escOf c with
    | some x => .ok (x.toNat, p + 2)
    | none =>
      (unit t p p).bind fun high =>
        if high < 55296 ∨ 57343 < high then .ok (high, p + 6)
        else if 56320 ≤ high then .bad p eSyntax
        else (unit t p (p + 6)).bind fun low =>
          if low < 56320 ∨ 57343 < low then .bad p eSyntax else .ok (65536 + (high - 55296) * 1024 + (low - 56320), p + 12)
/-- 'utf8.FullRuneInString' of a text of n bytes (not none), the first of which are these. -/
def fullN (n a b c : Nat) : Bool :=
  if Lib.firstT a % 8 ≤ n then true
  else if 1 < n ∧ (b < Lib.accLo (Lib.firstT a / 16) ∨ Lib.accHi (Lib.firstT a / 16) < b) then true
  else if 2 < n ∧ (c < 128 ∨ 191 < c) then true else false
def fullAt (t : ByteArray) (p : Nat) : Bool := fullN (t.size - p) (t.get! p).toNat (t.get! (p + 1)).toNat (t.get! (p + 2)).toNat
def signAt (t : ByteArray) (p : Nat) : R (Nat × Nat) :=
  if fullAt t p = false then .bad t.size eSyntax
  else if Utf8.decode t p = (65533, 1) then .bad p eUtf8
  else .ok ((Utf8.decode t p).1, p + (Utf8.decode t p).2)
/-- 'quoted', behind its first quote; out: what was read. -/
def quotedFrom (t : ByteArray) : Nat → Nat → List UInt8 → R (ByteArray × Nat)
  | 0, p, _ => .bad p eSyntax
  | n + 1, p, out =>
    (next t p).bind fun c =>
      if c = 34 then .ok (⟨out.toArray⟩, p + 1)
      else if c < 32 then .bad p eSyntax
      else if c = 92 then (escape t p).bind fun x => quotedFrom t n x.2 (out ++ Lib.encodeRune x.1)
      else (signAt t p).bind fun x => quotedFrom t n x.2 (out ++ Lib.encodeRune x.1)
def quoted (t : ByteArray) (p : Nat) : R (ByteArray × Nat) := (take t p 34).bind fun q => quotedFrom t (t.size + 1 - q) q []
/-- 'more': the place of the next item, or the place behind the end. -/
def more (t : ByteArray) (p : Nat) (e : UInt8) (had : Nat) : R (Bool × Nat) :=
  (next t (blanks t p)).bind fun c =>
    if c = e then .ok (false, blanks t p + 1)
    else if had = 0 then .ok (true, blanks t p)
    else (take t (blanks t p) 44).bind fun q => (next t (blanks t q)).bind fun _ => if had = 64 then .bad (blanks t q) eSize else .ok (true, blanks t q)
/-- Where a key stands, or would stand, among those that rise (as the search finds it). -/
def place (ks : List ByteArray) (k : ByteArray) : Nat := Lib.bsGo (fun t => Op.bytesLess (ks.getD t emp).data.toList k.data.toList) ks.length 0 ks.length
def insertAt {α : Type} (l : List α) (i : Nat) (x : α) : List α := l.take i ++ x :: l.drop i
/-- 'key': the key, the place behind what stands ahead of the value. -/
def key (t : ByteArray) (p : Nat) (had : List ByteArray) : R (ByteArray × Nat) :=
  (next t p).bind fun c =>
    if c ≠ 34 then .bad p eSyntax
    else (quoted t p).bind fun x =>
      if had[place had x.1]? = some x.1 then .bad p eTwice
      else (take t (blanks t x.2) 58).bind fun q => .ok (x.1, blanks t q)
def listFrom (t : ByteArray) (val : Nat → R (V × Nat)) : Nat → Nat → List V → R (V × Nat)
  | 0, p, _ => .bad p eSize
  | n + 1, p, had =>
    (more t p 93 had.length).bind fun m =>
      if m.1 = false then .ok (.list had, m.2)
      else (val m.2).bind fun x => listFrom t val n x.2 (had ++ [x.1])
def objFrom (t : ByteArray) (val : Nat → R (V × Nat)) : Nat → Nat → List ByteArray → List V → R (V × Nat)
  | 0, p, _, _ => .bad p eSize
  | n + 1, p, ks, had =>
    (more t p 125 had.length).bind fun m =>
      if m.1 = false then .ok (.obj ks had, m.2)
      else (key t m.2 ks).bind fun k => (val k.2).bind fun x =>
        objFrom t val n x.2 (insertAt ks (place ks k.1) k.1) (insertAt had (place ks k.1) x.1)
/-- 'value', d brackets may still be opened. -/
def value (t : ByteArray) : Nat → Nat → R (V × Nat)
  | d, p =>
    (next t p).bind fun c =>
      if isLetter c then word t p
      else if isDigit c || c == 45 then number t p
      else if c = 34 then (quoted t p).bind fun x => .ok (.text x.1, x.2)
      else if c = 91 then (match d with
        | 0 => .bad p eDepth
        | d + 1 => listFrom t (value t d) 66 (p + 1) [])
      else if c = 123 then (match d with
        | 0 => .bad p eDepth
        | d + 1 => objFrom t (value t d) 66 (p + 1) [] [])
      else .bad p eSyntax
def wholeText (t : ByteArray) : R V :=
  (value t 10 (blanks t 0)).bind fun x => if blanks t x.2 < t.size then .bad (blanks t x.2) eSyntax else .ok x.1
/-- J1. -/
def parse (t : ByteArray) : R V := if 4096 < t.size then .bad 4096 eSize else wholeText t
end Go.Jv
