/-
  The document's Encode.
-/
import Derived.Test.YtkfmfdnfjeofiabDoorHi
namespace Go.Dg
open Go.RowKit Go.Wi
def signsL : List UInt8 := [65, 66, 67, 68, 69, 70, 71, 72, 73, 74, 75, 76, 77, 78, 79, 80, 81, 82, 83, 84, 85, 86, 87, 88, 89, 90, 97, 98, 99, 100, 101, 102, 103, 104, 105, 106, 107, 108, 109, 110, 111, 112, 113, 114, 115, 116, 117, 118, 119, 120, 121, 122, 48, 49, 50, 51, 52, 53, 54, 55, 56, 57, 45, 95]
def sign (n : Nat) : UInt8 := signsL.getD n 0
theorem sign_at : ∀ (n : Nat) (h : n < 64), (⟨#[65, 66, 67, 68, 69, 70, 71, 72, 73, 74, 75, 76, 77, 78, 79, 80, 81, 82, 83, 84, 85, 86, 87, 88, 89, 90, 97, 98, 99, 100, 101, 102, 103, 104, 105, 106, 107, 108, 109, 110, 111, 112, 113, 114, 115, 116, 117, 118, 119, 120, 121, 122, 48, 49, 50, 51, 52, 53, 54, 55, 56, 57, 45, 95]⟩ : ByteArray)[n]'h = sign n := by decide
/-- Bit i, from the left. -/
def bitL (l : List UInt8) (i : Nat) : Nat := (l.getD (i / 8) 0).toNat / 2 ^ (7 - i % 8) % 2
/-- Behind i bits: the number so far, its bits, what was written. -/
structure En where
  n : Nat
  k : Nat
  o : List UInt8
def En.step (s : En) (x : Nat) : En := if s.k = 5 then ⟨0, 0, s.o ++ [sign (2 * s.n + x)]⟩ else ⟨2 * s.n + x, s.k + 1, s.o⟩
def encS (l : List UInt8) : Nat → En
  | 0 => ⟨0, 0, []⟩
  | i + 1 => (encS l i).step (bitL l i)
theorem bitL_lt (l : List UInt8) (i : Nat) : bitL l i < 2 := Nat.mod_lt _ (by decide)
structure En.Ok (s : En) (i : Nat) : Prop where
  k : s.k < 6
  n : s.n < 2 ^ s.k
  o : 6 * s.o.length + s.k = i
theorem En.Ok.step {s : En} {i x : Nat} (h : s.Ok i) (hx : x < 2) : (s.step x).Ok (i + 1) := by
  obtain ⟨h1, h2, h3⟩ := h
  unfold En.step
  split
  · rename_i h
    exact ⟨by show 0 < 6; omega, by show 0 < 2 ^ 0; decide, by simp only [List.length_append, List.length_cons, List.length_nil]; omega⟩
  · rename_i h
    refine ⟨by show s.k + 1 < 6; omega, ?_, by show 6 * s.o.length + (s.k + 1) = i + 1; omega⟩
    show 2 * s.n + x < 2 ^ (s.k + 1)
    rw [Nat.pow_succ]
    omega
theorem encS_ok (l : List UInt8) : ∀ i, (encS l i).Ok i
  | 0 => ⟨by show 0 < 6; decide, by show 0 < 2 ^ 0; decide, rfl⟩
  | i + 1 => (encS_ok l i).step (bitL_lt l i)
def enc (l : List UInt8) : List UInt8 := let s := encS l (8 * l.length); if s.k = 0 then s.o else s.o ++ [sign (s.n * 2 ^ (6 - s.k))]
end Go.Dg
namespace Go.Proofs
open Go.RowKit Go.Wi Go.Dg
end Go.Proofs
