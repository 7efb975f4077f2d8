/-
  The laws' primes and roots, plain.
-/
import Derived.Test.YtkfmfdnfjeofiaaDoorHs
namespace Go.Dg
def isP (x : Nat) (l : List Nat) : Bool := l.all fun p => x % p != 0
/-- The primes of the numbers from 2 on, so many. -/
def prm : Nat → List Nat
  | 0 => []
  | j + 1 => if isP (j + 2) (prm j) then prm j ++ [j + 2] else prm j
theorem prm_mono (j : Nat) : ∀ i, i ≤ j → (prm i).length ≤ (prm j).length := by
  induction j with
  | zero => intro i hi; rw [show i = 0 by omega]; exact Nat.le_refl _
  | succ j ih =>
    intro i hi
    by_cases e : i = j + 1
    · subst e; exact Nat.le_refl _
    · have h1 := ih i (by omega)
      have h2 : (prm j).length ≤ (prm (j + 1)).length := by
        rw [show prm (j + 1) = if isP (j + 2) (prm j) then prm j ++ [j + 2] else prm j from rfl]
        split
        · simp
        · exact Nat.le_refl _
      omega
def primes : List Nat := [2, 3, 5, 7, 11, 13, 17, 19, 23, 29, 31, 37, 41, 43, 47, 53, 59, 61, 67, 71, 73, 79, 83, 89, 97, 101, 103, 107, 109, 113, 127, 131, 137, 139, 149, 151, 157, 163, 167, 173, 179, 181, 191, 193, 197, 199, 211, 223, 227, 229, 233, 239, 241, 251, 257, 263, 269, 271, 277, 281, 283, 293, 307, 311]
theorem prm_309 : (prm 309).length = 63 := by kernel_rfl
theorem prm_310 : prm 310 = primes := by kernel_rfl
theorem prm_short (j : Nat) (h : j ≤ 309) : (prm j).length < 64 := by
  have := prm_mono 309 j h
  rw [prm_309] at this
  omega
theorem prm_two (j : Nat) : ∀ p ∈ prm j, 2 ≤ p := by
  induction j with
  | zero => intro p hp; cases hp
  | succ j ih =>
    intro p hp
    unfold prm at hp
    split at hp
    · rcases List.mem_append.1 hp with h | h
      · exact ih p h
      · rw [List.mem_singleton.1 h]; omega
    · exact ih p hp
theorem root3 : primes.map (fun p => root p 3) = rounds := by kernel_rfl
theorem root2 : (primes.take 8).map (fun p => root p 2) = start.l := by kernel_rfl
end Go.Dg
