/-
  The document's Decode.
-/
import Derived.Test.YtkfmfdnfjeofiabDoorHj
namespace Go.Dg
open Go.RowKit Go.Wi
/-- The value of a sign, from number 64 - f on. -/
def valF : Nat → UInt8 → Int
  | 0, _ => -1
  | f + 1, c => if sign (64 - (f + 1)) = c then ((64 - (f + 1) : Nat) : Int) else valF f c
def val (c : UInt8) : Int := valF 64 c
theorem valF_lt : ∀ (f : Nat) (c : UInt8), f ≤ 64 → valF f c < 64 ∧ -1 ≤ valF f c
  | 0, _, _ => by unfold valF; omega
  | f + 1, c, h => by
    have := valF_lt f c (by omega)
    unfold valF
    split <;> omega
theorem val_lt (c : UInt8) : val c < 64 ∧ -1 ≤ val c := valF_lt 64 c (by omega)
/-- Behind some signs: the number so far, its bits, what was read. -/
def En.read (s : En) (v : Nat) : En := if s.k + 6 ≥ 8 then ⟨(s.n * 64 + v) % 2 ^ (s.k + 6 - 8), s.k + 6 - 8, s.o ++ [UInt8.ofNat ((s.n * 64 + v) / 2 ^ (s.k + 6 - 8))]⟩ else ⟨s.n * 64 + v, s.k + 6, s.o⟩
def decS (l : List UInt8) : Nat → En
  | 0 => ⟨0, 0, []⟩
  | i + 1 => (decS l i).read (val (l.getD i 0)).toNat
structure En.Ok8 (s : En) (i : Nat) : Prop where
  k : s.k < 8
  n : s.n < 2 ^ s.k
  o : 8 * s.o.length + s.k = 6 * i
theorem En.Ok8.read {s : En} {i v : Nat} (h : s.Ok8 i) (hv : v < 64) : (s.read v).Ok8 (i + 1) := by
  obtain ⟨h1, h2, h3⟩ := h
  unfold En.read
  split
  · rename_i h
    refine ⟨by show s.k + 6 - 8 < 8; omega, by show _ % 2 ^ _ < 2 ^ _; exact Nat.mod_lt _ (Nat.pow_pos (by decide)), ?_⟩
    simp only [List.length_append, List.length_cons, List.length_nil]
    omega
  · rename_i h
    refine ⟨by show s.k + 6 < 8; omega, ?_, by show 8 * s.o.length + (s.k + 6) = 6 * (i + 1); omega⟩
    show s.n * 64 + v < 2 ^ (s.k + 6)
    rw [Nat.pow_add]
    omega
theorem decS_ok (l : List UInt8) : ∀ i, (decS l i).Ok8 i
  | 0 => ⟨by show 0 < 8; decide, by show 0 < 2 ^ 0; decide, rfl⟩
  | i + 1 => (decS_ok l i).read (by have := val_lt (l.getD i 0); omega)
/-- The first sign that is none, if there is one. -/
def badF (l : List UInt8) : Nat → Nat → Option Nat
  | 0, _ => none
  | f + 1, i => if val (l.getD i 0) < 0 then some i else badF l f (i + 1)
theorem badF_none (l : List UInt8) : ∀ (f i : Nat), badF l f i = none → ∀ j, i ≤ j → j < i + f → 0 ≤ val (l.getD j 0)
  | 0, i, _, j, h1, h2 => by omega
  | f + 1, i, h, j, h1, h2 => by
    unfold badF at h
    split at h
    · cases h
    · rename_i h3
      by_cases e : j = i
      · subst e; omega
      · exact badF_none l f (i + 1) h j (by omega) (by omega)
/-- What is read; else the place of the fault. -/
def dec (l : List UInt8) : Option (List UInt8) × Nat :=
  match badF l l.length 0 with
  | some i => (none, i)
  | none => if l.length % 4 = 1 then (none, l.length - 1) else if (decS l l.length).n ≠ 0 then (none, l.length - 1) else (some (decS l l.length).o, 0)
/-- As it is given back. -/
def decV (r : Option (List UInt8) × Nat) : Value := match r with
  | (none, i) => .tuple #[.string ⟨#[]⟩, .int .i64 (i : Int), .int .i64 160]
  | (some o, _) => .tuple #[.string ⟨o.toArray⟩, .int .i64 0, .int .i64 0]
end Go.Dg
namespace Go.Proofs
open Go.RowKit Go.Wi Go.Dg
end Go.Proofs
