/-
  Laid together by packg.py of Jw Jt Jv Jr1.
-/
import Derived.Test.YtcakkkafanpjaaaGreatDoorProg
import Derived.Test.YtcakkkafanpjaaaGreatDoorShelf
import Derived.WalkKit
import Derived.Deep.QuietTactic
import Derived.BigQuiet
import Derived.Lib.AppendIntMem
import Derived.Shelf.Unicode.DecodeSlow
import Derived.Lib.RuneBytes
import Derived.Lib.DecodeN
import Derived.Lib.DecodeNEq
import Derived.Lib.Strings
import Derived.Lib.ParseIntB
import Derived.Shelf.Spec.SearchS
import Derived.WalkLawsBesides
import Derived.WalkSpells
import Derived.Outline
namespace Go.Jv
open Go.RowKit
/-- All blocks but one are as they were. -/
structure Wk (b : Nat) (w w' : World) : Prop where
  os : w'.os = w.os
  tape : w'.tape = w.tape
  output : w'.output = w.output
  size : w.heap.size ≤ w'.heap.size
  block : ∀ k, k < w.heap.size → k ≠ b → w'.heap[k]? = w.heap[k]?
theorem Wk.refl (b : Nat) (w : World) : Wk b w w := ⟨rfl, rfl, rfl, Nat.le_refl _, fun _ _ _ => rfl⟩
theorem Wk.trans {b : Nat} {w w1 w2 : World} (h : Wk b w w1) (g : Wk b w1 w2) : Wk b w w2 :=
  ⟨g.os.trans h.os, g.tape.trans h.tape, g.output.trans h.output, Nat.le_trans h.size g.size, fun k hk hb => (g.block k (Nat.lt_of_lt_of_le hk h.size) hb).trans (h.block k hk hb)⟩
theorem Wk.drewN {b : Nat} {w w' : World} (h : Wk b w w') (n : Nat) : Wk b w (w'.drewN n) := ⟨h.os, h.tape, h.output, h.size, h.block⟩
theorem Wk.drew {b : Nat} {w w' : World} (h : Wk b w w') : Wk b w w'.drew := ⟨h.os, h.tape, h.output, h.size, h.block⟩
theorem Wk.setCell {b : Nat} {w w' : World} (h : Wk b w w') (o : Nat) (e : Option Nat) (v : Value) : Wk b w (w'.setCell ⟨b, o, e⟩ v) :=
  ⟨h.os, h.tape, h.output, by simpa using h.size, fun k hk hb => (Below.heap_setCell w' ⟨b, o, e⟩ v k hb).trans (h.block k hk hb)⟩
theorem Wk.below {b B : Nat} {w w1 w2 : World} (h : Wk b w w1) (g : Below B w1 w2) (hB : w.heap.size ≤ B) : Wk b w w2 :=
  ⟨g.os.trans h.os, g.tape.trans h.tape, g.output.trans h.output, Nat.le_trans h.size g.size, fun k hk hb => (g.block k (Nat.lt_of_lt_of_le hk hB)).trans (h.block k hk hb)⟩
theorem Wk.cell {b : Nat} {w w' : World} (h : Wk b w w') {p : Addr} (hp : p.block < w.heap.size) (hb : p.block ≠ b) : w'.cell? p = w.cell? p := World.cell?_of_block (w := w) (h.block _ hp hb)
theorem Wk.frozen {b : Nat} {w w' : World} (h : Wk b w w') {p : Addr} (hp : p.block < w.heap.size) (hb : p.block ≠ b) : w'.frozen? p = w.frozen? p := World.frozen?_of_block (w := w) (h.block _ hp hb)
/-- Behind a new block of one's own, all that was there is as it was. -/
theorem Wk.toBelow {b : Nat} {w w1 w2 : World} (h : Below w.heap.size w w1) (g : Wk b w1 w2) (hb : w.heap.size ≤ b) : Below w.heap.size w w2 :=
  ⟨g.os.trans h.os, g.tape.trans h.tape, g.output.trans h.output, Nat.le_trans h.size g.size, fun k hk => (g.block k (Nat.lt_of_lt_of_le hk h.size) (by omega)).trans (h.block k hk)⟩
theorem Jv.belowN {B : Nat} {a w : World} (h : Below B a w) (n : Nat) : Below B a (w.drewN n) := ⟨h.os, h.tape, h.output, h.size, h.block⟩
/-- The reader's block. -/
structure Rd (w : World) (b : Nat) (t : ByteArray) (p o : Nat) : Prop where
  c0 : w.cell? ⟨b, 0, none⟩ = some (.string t)
  c1 : w.cell? ⟨b, 1, none⟩ = some (.int .i64 p)
  c2 : w.cell? ⟨b, 2, none⟩ = some (.int .i64 o)
  f0 : w.frozen? ⟨b, 0, none⟩ = false
  f1 : w.frozen? ⟨b, 1, none⟩ = false
  f2 : w.frozen? ⟨b, 2, none⟩ = false
  hb : b < w.heap.size
  hp : p ≤ t.size
  ht : t.size ≤ 4096
  ho : o ≤ 10
theorem Rd.drewN {w : World} {b : Nat} {t : ByteArray} {p o : Nat} (h : Rd w b t p o) (n : Nat) : Rd (w.drewN n) b t p o :=
  ⟨h.c0, h.c1, h.c2, h.f0, h.f1, h.f2, h.hb, h.hp, h.ht, h.ho⟩
theorem Rd.below {w w' : World} {b : Nat} {t : ByteArray} {p o : Nat} (h : Rd w b t p o) (g : Below w.heap.size w w') : Rd w' b t p o :=
  ⟨(g.cell h.hb).trans h.c0, (g.cell h.hb).trans h.c1, (g.cell h.hb).trans h.c2, (g.frozen h.hb).trans h.f0, (g.frozen h.hb).trans h.f1, (g.frozen h.hb).trans h.f2, Nat.lt_of_lt_of_le h.hb g.size, h.hp, h.ht, h.ho⟩
theorem Rd.atN {w : World} {b : Nat} {t : ByteArray} {p o : Nat} (h : Rd w b t p o) (n q : Nat) (v : Int) (hv : v = q) (hq : q ≤ t.size) : Rd ((w.drewN n).setCell ⟨b, 1, none⟩ (.int .i64 v)) b t q o := by
  subst hv
  have h := h.drewN n
  generalize w.drewN n = w at h
  have hs : ∀ x, (w.setCell ⟨b, 1, none⟩ (.int .i64 q)).frozen? x = w.frozen? x := fun x => by simp
  refine ⟨?_, ?_, ?_, (hs _).trans h.f0, (hs _).trans h.f1, (hs _).trans h.f2, by simpa using h.hb, hq, h.ht, h.ho⟩
  · rw [World.cell?_setCell_other _ _ _ _ (by simp)]; exact h.c0
  · exact World.cell?_setCell_same' _ _ _ (by rw [h.c1]; rfl)
  · rw [World.cell?_setCell_other _ _ _ _ (by simp)]; exact h.c2
theorem Rd.at0 {w : World} {b : Nat} {t : ByteArray} {p o : Nat} (h : Rd w b t p o) (q : Nat) (v : Int) (hv : v = q) (hq : q ≤ t.size) : Rd (w.setCell ⟨b, 1, none⟩ (.int .i64 v)) b t q o :=
  h.atN 0 q v hv hq
theorem Rd.openN {w : World} {b : Nat} {t : ByteArray} {p o : Nat} (h : Rd w b t p o) (n q : Nat) (v : Int) (hv : v = q) (hq : q ≤ 10) : Rd ((w.drewN n).setCell ⟨b, 2, none⟩ (.int .i64 v)) b t p q := by
  subst hv
  have h := h.drewN n
  generalize w.drewN n = w at h
  have hs : ∀ x, (w.setCell ⟨b, 2, none⟩ (.int .i64 q)).frozen? x = w.frozen? x := fun x => by simp
  refine ⟨?_, ?_, ?_, (hs _).trans h.f0, (hs _).trans h.f1, (hs _).trans h.f2, by simpa using h.hb, h.hp, h.ht, hq⟩
  · rw [World.cell?_setCell_other _ _ _ _ (by simp)]; exact h.c0
  · rw [World.cell?_setCell_other _ _ _ _ (by simp)]; exact h.c1
  · exact World.cell?_setCell_same' _ _ _ (by rw [h.c2]; rfl)
/-- What a panic of the reader bears. -/
def Bad (T : TypeId) (p e : Nat) (en : Ending) (w' : World) : Prop :=
  ∃ x : Nat, x < w'.heap.size ∧ en = .panicked [{ v := .iface T (.pointer (some ⟨x, 0, none⟩)), recovered := false }] ∧
    w'.cell? ⟨x, 0, none⟩ = some (.int .i64 p) ∧ w'.cell? ⟨x, 1, none⟩ = some (.int .i64 e)
end Go.Jv
namespace Go.Proofs
open Go.RowKit Go.Jv
/-- The variables hold what their initialisers lay. -/
structure Tryz.Tabs0 (w : World) : Prop where
  u8 : Lib.Utf8Tabs 0 1 w
  es : ∃ te pe, w.cell? ⟨4, 0, none⟩ = some (.iface te pe)
  er : ∃ te pe, w.cell? ⟨5, 0, none⟩ = some (.iface te pe)
  p10 : Lib.TabIs Tryz.prog w "internal/strconv.uint64pow10" .u64 Lib.pow10Tab
/-- So it is, whatever becomes of the blocks behind the variables'. -/
structure Tryz.Tb (w : World) : Prop where
  size : 8 ≤ w.heap.size
  all : ∀ w' : World, (∀ k, k < 8 → w'.heap[k]? = w.heap[k]?) → Tryz.Tabs0 w'
theorem Tryz.Tb.here {w : World} (h : Tryz.Tb w) : Tryz.Tabs0 w := h.all w fun _ _ => rfl
theorem Tryz.Tb.wk {w w' : World} {b : Nat} (h : Tryz.Tb w) (g : Wk b w w') (hb : 8 ≤ b) : Tryz.Tb w' :=
  ⟨Nat.le_trans h.size g.size, fun w2 h2 => h.all w2 fun k hk => (h2 k hk).trans (g.block k (Nat.lt_of_lt_of_le hk h.size) (by omega))⟩
theorem Tryz.Tb.below {w w' : World} {B : Nat} (h : Tryz.Tb w) (g : Below B w w') (hB : 8 ≤ B) : Tryz.Tb w' :=
  ⟨Nat.le_trans h.size g.size, fun w2 h2 => h.all w2 fun k hk => (h2 k hk).trans (g.block k (Nat.lt_of_lt_of_le hk hB))⟩
theorem Tryz.Tb.drewN {w : World} (h : Tryz.Tb w) (n : Nat) : Tryz.Tb (w.drewN n) := ⟨h.size, h.all⟩
theorem Tryz.Tb.p10 {w : World} (h : Tryz.Tb w) {B : Nat} (hB : 8 ≤ B) : Lib.TabBelow Tryz.prog B w "internal/strconv.uint64pow10" .u64 Lib.pow10Tab :=
  fun _ g => (h.all _ fun k hk => g.block k (Nat.lt_of_lt_of_le hk hB)).p10
end Go.Proofs
namespace Go.Jv
/-- A value. -/
inductive V where
  | null
  | bool (b : Bool)
  | int (n : Int)
  | text (s : ByteArray)
  | list (l : List V)
  | obj (ks : List ByteArray) (l : List V)
/-- What a part of the reader answers: a fault (its place, its number), or a thing. -/
inductive R (α : Type) where
  | bad (p e : Nat)
  | ok (a : α)
deriving DecidableEq
@[inline] def R.bind {α β : Type} : R α → (α → R β) → R β
  | .bad p e, _ => .bad p e
  | .ok a, f => f a
def eSyntax : Nat := 20
def eDepth : Nat := 21
def eSize : Nat := 22
def eNumber : Nat := 23
def eTwice : Nat := 24
def eUtf8 : Nat := 10
def isBlank (c : UInt8) : Bool := decide (c.toNat = 32 ∨ c.toNat = 9 ∨ c.toNat = 10 ∨ c.toNat = 13)
def isLetter (c : UInt8) : Bool := decide ((97 ≤ c.toNat ∧ c.toNat ≤ 122) ∨ (65 ≤ c.toNat ∧ c.toNat ≤ 90))
def isDigit (c : UInt8) : Bool := decide (48 ≤ c.toNat ∧ c.toNat ≤ 57)
def isOfNumber (c : UInt8) : Bool := decide ((48 ≤ c.toNat ∧ c.toNat ≤ 57) ∨ c.toNat = 43 ∨ c.toNat = 45 ∨ c.toNat = 46 ∨ c.toNat = 101 ∨ c.toNat = 69)
/-- 'run': the place behind all bytes of a kind. -/
def runTo (f : UInt8 → Bool) (t : ByteArray) : Nat → Nat → Nat
  | 0, p => p
  | n + 1, p => if p < t.size ∧ f (t.get! p) = true then runTo f t n (p + 1) else p
def run (f : UInt8 → Bool) (t : ByteArray) (p : Nat) : Nat := runTo f t (t.size - p) p
def blanks (t : ByteArray) (p : Nat) : Nat := run isBlank t p
/-- 'next'. -/
def next (t : ByteArray) (p : Nat) : R UInt8 := if p < t.size then .ok (t.get! p) else .bad p eSyntax
/-- 'take'. -/
def take (t : ByteArray) (p : Nat) (c : UInt8) : R Nat := if p < t.size ∧ t.get! p = c then .ok (p + 1) else .bad p eSyntax
def sub (t : ByteArray) (a b : Nat) : ByteArray := t.extract a b
/-- 'word'. -/
def word (t : ByteArray) (p : Nat) : R (V × Nat) :=
  let q := run isLetter t p
  let s := (sub t p q).data.toList
  if s = [110, 117, 108, 108] then .ok (.null, q)
  else if s = [116, 114, 117, 101] then .ok (.bool true, q)
  else if s = [102, 97, 108, 115, 101] then .ok (.bool false, q)
  else .bad p eSyntax
/-- The digits with which a text begins; what follows. -/
def dg1 (s : ByteArray) : ByteArray := ⟨(s.data.toList.takeWhile isDigit).toArray⟩
def dg2 (s : ByteArray) : ByteArray := ⟨(s.data.toList.dropWhile isDigit).toArray⟩
def tail1 (s : ByteArray) : ByteArray := s.extract 1 s.size
def pre (s : ByteArray) (c : UInt8) : Bool := Lib.hasPrefix s.data.toList [c]
def emp : ByteArray := ⟨#[]⟩
def nought : ByteArray := ⟨#[48]⟩
/-- 'isNumber', behind the power; part: what stood behind the point. -/
def num3 (part power rest : ByteArray) : Bool := decide (part ≠ emp ∧ power ≠ emp ∧ rest = emp)
/-- 'isNumber', behind the point. -/
def num2 (part rest : ByteArray) : Bool :=
  if pre rest 101 = true ∨ pre rest 69 = true then
    (if pre (tail1 rest) 43 = true ∨ pre (tail1 rest) 45 = true then num3 part (dg1 (tail1 (tail1 rest))) (dg2 (tail1 (tail1 rest)))
     else num3 part (dg1 (tail1 rest)) (dg2 (tail1 rest)))
  else num3 part nought rest
/-- 'isNumber', behind the whole digits. -/
def num1 (rest : ByteArray) : Bool := if pre rest 46 = true then num2 (dg1 (tail1 rest)) (dg2 (tail1 rest)) else num2 nought rest
def trim (s : ByteArray) : ByteArray := ⟨(Lib.trimPrefix s.data.toList [45]).toArray⟩
/-- 'isNumber'. -/
def isNumber (s : ByteArray) : Bool :=
  if dg1 (trim s) = emp then false
  else if 1 < (dg1 (trim s)).size ∧ (dg1 (trim s)).get! 0 = 48 then false
  else num1 (dg2 (trim s))
def maxInt : Int := 9007199254740991
/-- The number, if it is one. -/
def numOf (s : ByteArray) : Option Int :=
  match Lib.parseIntB 64 s.data.toList with
  | .ok n => if -maxInt ≤ n ∧ n ≤ maxInt then some n else none
  | _ => none
def number (t : ByteArray) (p : Nat) : R (V × Nat) :=
  let q := run isOfNumber t p
  if isNumber (sub t p q) = true then
    match numOf (sub t p q) with
    | some n => .ok (.int n, q)
    | none => .bad p eNumber
  else .bad p eSyntax
def hexOf (c : UInt8) : Option Nat :=
  if 48 ≤ c.toNat ∧ c.toNat ≤ 57 then some (c.toNat - 48) else if 97 ≤ c.toNat ∧ c.toNat ≤ 102 then some (c.toNat - 87) else if 65 ≤ c.toNat ∧ c.toNat ≤ 70 then some (c.toNat - 55) else none
/-- 'unit', from its i-th byte on: the number, so far n. -/
def unitFrom (t : ByteArray) (fr : Nat) : Nat → Nat → Nat → R Nat
  | 0, _, n => .ok n
  | k + 1, p, n =>
    if p < t.size then
      (if k = 5 then (if t.get! p = 92 then unitFrom t fr k (p + 1) n else .bad fr eSyntax)
       else if k = 4 then (if t.get! p = 117 then unitFrom t fr k (p + 1) n else .bad fr eSyntax)
       else match hexOf (t.get! p) with
        | some d => unitFrom t fr k (p + 1) (16 * n + d)
        | none => .bad fr eSyntax)
    else .bad p eSyntax
def unit (t : ByteArray) (fr p : Nat) : R Nat := unitFrom t fr 6 p 0
def escOf (c : UInt8) : Option UInt8 :=
  if c = 34 then some 34 else if c = 92 then some 92 else if c = 47 then some 47 else if c = 98 then some 8 else if c = 102 then some 12
  else if c = 110 then some 10 else if c = 114 then some 13 else if c = 116 then some 9 else none
/-- 'escape': the rune, and the place behind it. -/
def escape (t : ByteArray) (p : Nat) : R (Nat × Nat) :=
  (next t (p + 1)).bind fun c =>
    match escOf c with
    | some x => .ok (x.toNat, p + 2)
    | none =>
      (unit t p p).bind fun high =>
        if high < 55296 ∨ 57343 < high then .ok (high, p + 6)
        else if 56320 ≤ high then .bad p eSyntax
        else (unit t p (p + 6)).bind fun low =>
          if low < 56320 ∨ 57343 < low then .bad p eSyntax else .ok (65536 + (high - 55296) * 1024 + (low - 56320), p + 12)
/-- 'utf8.FullRuneInString' of a text of n bytes (not none), the first of which are these. -/
def fullN (n a b c : Nat) : Bool :=
  if Lib.firstT a % 8 ≤ n then true
  else if 1 < n ∧ (b < Lib.accLo (Lib.firstT a / 16) ∨ Lib.accHi (Lib.firstT a / 16) < b) then true
  else if 2 < n ∧ (c < 128 ∨ 191 < c) then true else false
def fullAt (t : ByteArray) (p : Nat) : Bool := fullN (t.size - p) (t.get! p).toNat (t.get! (p + 1)).toNat (t.get! (p + 2)).toNat
def signAt (t : ByteArray) (p : Nat) : R (Nat × Nat) :=
  if fullAt t p = false then .bad t.size eSyntax
  else if Utf8.decode t p = (65533, 1) then .bad p eUtf8
  else .ok ((Utf8.decode t p).1, p + (Utf8.decode t p).2)
/-- 'quoted', behind its first quote; out: what was read. -/
def quotedFrom (t : ByteArray) : Nat → Nat → List UInt8 → R (ByteArray × Nat)
  | 0, p, _ => .bad p eSyntax
  | n + 1, p, out =>
    (next t p).bind fun c =>
      if c = 34 then .ok (⟨out.toArray⟩, p + 1)
      else if c < 32 then .bad p eSyntax
      else if c = 92 then (escape t p).bind fun x => quotedFrom t n x.2 (out ++ Lib.encodeRune x.1)
      else (signAt t p).bind fun x => quotedFrom t n x.2 (out ++ Lib.encodeRune x.1)
def quoted (t : ByteArray) (p : Nat) : R (ByteArray × Nat) := (take t p 34).bind fun q => quotedFrom t (t.size + 1 - q) q []
/-- 'more': the place of the next item, or the place behind the end. -/
def more (t : ByteArray) (p : Nat) (e : UInt8) (had : Nat) : R (Bool × Nat) :=
  (next t (blanks t p)).bind fun c =>
    if c = e then .ok (false, blanks t p + 1)
    else if had = 0 then .ok (true, blanks t p)
    else (take t (blanks t p) 44).bind fun q => (next t (blanks t q)).bind fun _ => if had = 64 then .bad (blanks t q) eSize else .ok (true, blanks t q)
/-- Where a key stands, or would stand, among those that rise (as the search finds it). -/
def place (ks : List ByteArray) (k : ByteArray) : Nat := Lib.bsGo (fun t => Op.bytesLess (ks.getD t emp).data.toList k.data.toList) ks.length 0 ks.length
def insertAt {α : Type} (l : List α) (i : Nat) (x : α) : List α := l.take i ++ x :: l.drop i
/-- 'key': the key, the place behind what stands ahead of the value. -/
def key (t : ByteArray) (p : Nat) (had : List ByteArray) : R (ByteArray × Nat) :=
  (next t p).bind fun c =>
    if c ≠ 34 then .bad p eSyntax
    else (quoted t p).bind fun x =>
      if had[place had x.1]? = some x.1 then .bad p eTwice
      else (take t (blanks t x.2) 58).bind fun q => .ok (x.1, blanks t q)
def listFrom (t : ByteArray) (val : Nat → R (V × Nat)) : Nat → Nat → List V → R (V × Nat)
  | 0, p, _ => .bad p eSize
  | n + 1, p, had =>
    (more t p 93 had.length).bind fun m =>
      if m.1 = false then .ok (.list had, m.2)
      else (val m.2).bind fun x => listFrom t val n x.2 (had ++ [x.1])
def objFrom (t : ByteArray) (val : Nat → R (V × Nat)) : Nat → Nat → List ByteArray → List V → R (V × Nat)
  | 0, p, _, _ => .bad p eSize
  | n + 1, p, ks, had =>
    (more t p 125 had.length).bind fun m =>
      if m.1 = false then .ok (.obj ks had, m.2)
      else (key t m.2 ks).bind fun k => (val k.2).bind fun x =>
        objFrom t val n x.2 (insertAt ks (place ks k.1) k.1) (insertAt had (place ks k.1) x.1)
/-- 'value', d brackets may still be opened. -/
def value (t : ByteArray) : Nat → Nat → R (V × Nat)
  | d, p =>
    (next t p).bind fun c =>
      if isLetter c then word t p
      else if isDigit c || c == 45 then number t p
      else if c = 34 then (quoted t p).bind fun x => .ok (.text x.1, x.2)
      else if c = 91 then (match d with
        | 0 => .bad p eDepth
        | d + 1 => listFrom t (value t d) 66 (p + 1) [])
      else if c = 123 then (match d with
        | 0 => .bad p eDepth
        | d + 1 => objFrom t (value t d) 66 (p + 1) [] [])
      else .bad p eSyntax
def wholeText (t : ByteArray) : R V :=
  (value t 10 (blanks t 0)).bind fun x => if blanks t x.2 < t.size then .bad (blanks t x.2) eSyntax else .ok x.1
/-- J1. -/
def parse (t : ByteArray) : R V := if 4096 < t.size then .bad 4096 eSize else wholeText t
end Go.Jv
namespace Go.Proofs
open Go.RowKit Go.Jv
theorem Jv.get_eq (t : ByteArray) (p : Nat) (h : p < t.size) : t[p] = t.get! p := by
  obtain ⟨a⟩ := t; exact (getElem!_pos a p h).symm
theorem Jv.drewN2 (w : World) (a b : Nat) : (w.drewN a).drewN b = w.drewN (a + b) := by simp [World.drewN, Nat.add_assoc]
theorem Jv.ret_u8 {a b : UInt8} (h : a = b) : Ending.returned (.int .u8 a.toNat) = .returned (.int .u8 b.toNat) := by rw [h]
theorem Tryz.fault_any (p e : Int) (w : World) :
    Calls Tryz.prog 53 #[.int .i64 p, .int .i64 e] w fun en w' => en = .returned (.pointer (some ⟨w.heap.size, 0, none⟩)) ∧ w' = w.alloc (.cells #[.int .i64 p, .int .i64 e] 100) := by
  go_enter Tryz.func53, Tryz.ntmps53
  go_wp2
  go_ret
  exact ⟨rfl, rfl⟩
theorem Tryz.next_ok {w : World} {b : Nat} {t : ByteArray} {p o : Nat} (h : Rd w b t p o) (hlt : p < t.size) :
    Calls Tryz.prog 102 #[.pointer (some ⟨b, 0, none⟩)] w fun en w' => en = .returned (.int .u8 (t.get! p).toNat) ∧ ∃ n, w' = w.drewN n := by
  obtain ⟨c0, c1, c2, f0, f1, f2, hb, hp, ht, ho⟩ := h
  go_enter Tryz.func102, Tryz.ntmps102
  go_wp2
  go_quiet (fail)
  go_wp2
  go_quiet (fail)
  go_wp2
  go_ret
  exact ⟨Jv.ret_u8 (Jv.get_eq t p hlt), _, Jv.drewN2 _ _ _⟩
theorem Jv.cell0 (w : World) (x y : Value) (U : TypeId) : (w.alloc (.cells #[x, y] U)).cell? ⟨w.heap.size, 0, none⟩ = some x := by simp [go_sem]
theorem Jv.cell1 (w : World) (x y : Value) (U : TypeId) : (w.alloc (.cells #[x, y] U)).cell? ⟨w.heap.size, 1, none⟩ = some y := by simp [go_sem]
theorem Jv.bad_new {w : World} {b n : Nat} {T U : TypeId} {p e : Nat} (_hb : b < w.heap.size) :
    Bad T p e (.panicked [{ v := .iface T (.pointer (some ⟨w.heap.size, 0, none⟩)), recovered := false }]) ((w.drewN n).alloc (.cells #[.int .i64 p, .int .i64 e] U)) ∧ Wk b w ((w.drewN n).alloc (.cells #[.int .i64 p, .int .i64 e] U)) := by
  refine ⟨⟨w.heap.size, ?_, rfl, ?_, ?_⟩, ((Wk.refl b w).drewN n).below (Below.refl _ _ |>.alloc (Nat.le_refl _) _) (Nat.le_refl _)⟩
  · simp
  · exact Jv.cell0 (w.drewN n) _ _ _
  · exact Jv.cell1 (w.drewN n) _ _ _
theorem Tryz.next_bad {w : World} {b : Nat} {t : ByteArray} {o : Nat} (h : Rd w b t t.size o) :
    Calls Tryz.prog 102 #[.pointer (some ⟨b, 0, none⟩)] w fun en w' => Bad 88 t.size eSyntax en w' ∧ Wk b w w' := by
  obtain ⟨c0, c1, c2, f0, f1, f2, hb, hp, ht, ho⟩ := h
  go_enter Tryz.func102, Tryz.ntmps102
  go_wp2
  go_quiet (fail)
  go_wp2_with (go_at_call 53; refine (Tryz.fault_any _ _ _).mono ?_; rintro e w' ⟨rfl, rfl⟩)
  refine ⟨rfl, ?_⟩
  exact Jv.bad_new hb
theorem Jv.ret_bool {a b : Bool} (h : a = b) : Ending.returned (.bool a) = .returned (.bool b) := by rw [h]
theorem Tryz.isBlank_any (c : UInt8) (w : World) : Calls Tryz.prog 101 #[.int .u8 c.toNat] w fun en w' => en = .returned (.bool (isBlank c)) ∧ w' = w := by
  go_enter Tryz.func101, Tryz.ntmps101
  go_wp2
  all_goals
    go_ret
    refine ⟨Jv.ret_bool ?_, rfl⟩
    rw [Bool.eq_iff_iff]
    simp [isBlank]
    try omega
theorem Tryz.isDigit_any (c : UInt8) (w : World) : Calls Tryz.prog 105 #[.int .u8 c.toNat] w fun en w' => en = .returned (.bool (isDigit c)) ∧ w' = w := by
  go_enter Tryz.func105, Tryz.ntmps105
  go_wp2
  all_goals
    go_ret
    refine ⟨Jv.ret_bool ?_, rfl⟩
    rw [Bool.eq_iff_iff]
    simp [isDigit]
    try omega
theorem Tryz.isLetter_any (c : UInt8) (w : World) : Calls Tryz.prog 103 #[.int .u8 c.toNat] w fun en w' => en = .returned (.bool (isLetter c)) ∧ w' = w := by
  go_enter Tryz.func103, Tryz.ntmps103
  go_wp2
  all_goals
    go_ret
    refine ⟨Jv.ret_bool ?_, rfl⟩
    rw [Bool.eq_iff_iff]
    simp [isLetter]
    try omega
theorem Tryz.take_ok {w : World} {b : Nat} {t : ByteArray} {p o : Nat} {c : UInt8} (h : Rd w b t p o) (hlt : p < t.size) (hc : t.get! p = c) :
    Calls Tryz.prog 123 #[.pointer (some ⟨b, 0, none⟩), .int .u8 c.toNat] w fun en w' => en = .returned (.tuple #[]) ∧ Rd w' b t (p + 1) o ∧ Wk b w w' := by
  have hn := Tryz.next_ok h hlt
  rw [hc] at hn
  have H : Hid (Rd w b t p o) := h
  obtain ⟨c0, c1, c2, f0, f1, f2, hb, hp, ht, ho⟩ := h
  go_enter Tryz.func123, Tryz.ntmps123
  go_wp2_with (go_at_call 102; refine hn.mono ?_; rintro e w' ⟨rfl, n, rfl⟩)
  go_end0
  exact ⟨rfl, H.out.atN _ _ _ (by omega) hlt, ((Wk.refl b w).drewN n).setCell _ _ _⟩
theorem Tryz.take_other {w : World} {b : Nat} {t : ByteArray} {p o : Nat} {c : UInt8} (h : Rd w b t p o) (hlt : p < t.size) (hc : t.get! p ≠ c) :
    Calls Tryz.prog 123 #[.pointer (some ⟨b, 0, none⟩), .int .u8 c.toNat] w fun en w' => Bad 88 p eSyntax en w' ∧ Wk b w w' := by
  have hn := Tryz.next_ok h hlt
  have hc' : ¬ ((t.get! p).toNat : Int) = c.toNat := fun e => hc (UInt8.toNat_inj.1 (by omega))
  obtain ⟨c0, c1, c2, f0, f1, f2, hb, hp, ht, ho⟩ := h
  go_enter Tryz.func123, Tryz.ntmps123
  go_wp2_with (first | (go_at_call 102; refine hn.mono ?_; rintro e w' ⟨rfl, n, rfl⟩) | (go_at_call 53; refine (Tryz.fault_any _ _ _).mono ?_; rintro e w' ⟨rfl, rfl⟩))
  refine ⟨rfl, ?_⟩
  exact Jv.bad_new hb
theorem Tryz.take_end {w : World} {b : Nat} {t : ByteArray} {o : Nat} {c : UInt8} (h : Rd w b t t.size o) :
    Calls Tryz.prog 123 #[.pointer (some ⟨b, 0, none⟩), .int .u8 c.toNat] w fun en w' => Bad 88 t.size eSyntax en w' ∧ Wk b w w' := by
  have hn := Tryz.next_bad h
  go_enter Tryz.func123, Tryz.ntmps123
  go_wp2_with (go_at_call 102; refine hn.mono ?_; rintro e w' ⟨⟨x, hx, rfl, hx0, hx1⟩, hk⟩)
  exact ⟨rfl, ⟨x, hx, rfl, hx0, hx1⟩, hk⟩
end Go.Proofs
