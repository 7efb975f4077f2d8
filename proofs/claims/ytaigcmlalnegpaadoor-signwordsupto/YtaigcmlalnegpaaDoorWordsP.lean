/-
  THE WORDS OF A TEXT, AS THE Go TEXT GOES THROUGH IT: plain functions, nothing of the program.
-/
import Derived.Test.YtaigcmlalnegpaaDoorMath1
namespace Go.Sg
def wordsGo (s : ByteArray) : Nat → Nat → Option Nat → List (Nat × Nat)
  | 0, _, _ => []
  | f + 1, pos, fr =>
    if pos < s.size then
      (if wordB (Utf8.decode s pos).1 = true then wordsGo s f (pos + (Utf8.decode s pos).2) (some (fr.getD pos))
       else (fr.toList.map fun a => (a, pos)) ++ wordsGo s f (pos + (Utf8.decode s pos).2) none)
    else fr.toList.map fun a => (a, s.size)
def words (s : ByteArray) : List (Nat × Nat) := wordsGo s (s.size + 1) 0 none
def frI : Option Nat → Int
  | none => -1
  | some a => a
theorem wordsGo_t (s : ByteArray) (f pos : Nat) (fr : Option Nat) (h : pos < s.size) (hw : wordB (Utf8.decode s pos).1 = true) : wordsGo s (f + 1) pos fr = wordsGo s f (pos + (Utf8.decode s pos).2) (some (fr.getD pos)) := by
  exact (if_pos h).trans (if_pos hw)
theorem wordsGo_f (s : ByteArray) (f pos : Nat) (fr : Option Nat) (h : pos < s.size) (hw : wordB (Utf8.decode s pos).1 = false) : wordsGo s (f + 1) pos fr = (fr.toList.map fun a => (a, pos)) ++ wordsGo s f (pos + (Utf8.decode s pos).2) none := by
  have hw' : ¬ wordB (Utf8.decode s pos).1 = true := by rw [hw]; decide
  exact (if_pos h).trans (if_neg hw')
theorem wordsGo_e (s : ByteArray) (f pos : Nat) (fr : Option Nat) (h : ¬ pos < s.size) : wordsGo s (f + 1) pos fr = fr.toList.map fun a => (a, s.size) := by
  exact if_neg h
end Go.Sg
