/-
  Plain: the document's own loop over the numbers of a list comes to what ReadList reads.
-/
import Derived.Test.YtghpbagmpgphfaaWqJ
namespace Go.Proofs
open Go.RowKit Go.Wi
/-- So many rounds of the document's loop, which stops at a fault. -/
def Wi.gath : Nat → List Int → Rs → List Int × Rs
  | 0, l, s => (l, s)
  | n + 1, l, s => if s.f.isSome then (l, s) else Wi.gath n (l ++ [s.int.1]) s.int.2
theorem Wi.gath_bad (n : Nat) (l : List Int) (s : Rs) (h : s.f.isSome = true) : Wi.gath n l s = (l, s) := by
  cases n with
  | zero => rfl
  | succ n => simp only [Wi.gath, h, if_true]
theorem Wi.gath_nums : ∀ (n : Nat) (l : List Int) (s : Rs), (s.f = none ∨ (n = 0 ∧ l = [])) →
    Wi.nums n l s = (if (Wi.gath n l s).2.f.isSome then [] else (Wi.gath n l s).1, (Wi.gath n l s).2)
  | 0, l, s, h => by
    rcases h with h | ⟨-, h⟩
    · simp only [Wi.nums, Wi.gath, h, Option.isSome_none, Bool.false_eq_true, if_false]
    · subst h
      simp only [Wi.nums, Wi.gath]
      exact Prod.ext (ite_self _).symm rfl
  | n + 1, l, s, h => by
    have hf : s.f = none := by
      rcases h with h | ⟨h, -⟩
      · exact h
      · cases h
    have e : Wi.gath (n + 1) l s = Wi.gath n (l ++ [s.int.1]) s.int.2 := by
      simp only [Wi.gath, hf, Option.isSome_none, Bool.false_eq_true, if_false]
    rw [e]
    by_cases h2 : s.int.2.f.isSome = true
    · rw [Wi.gath_bad _ _ _ h2]
      simp only [Wi.nums, h2, if_true]
    · have h3 : s.int.2.f = none := by
        cases q : s.int.2.f with
        | none => rfl
        | some a => rw [q] at h2; exact absurd rfl h2
      have h4 := Wi.gath_nums n (l ++ [s.int.1]) s.int.2 (.inl h3)
      have e2 : Wi.nums (n + 1) l s = Wi.nums n (l ++ [s.int.1]) s.int.2 := by
        show (if s.int.2.f.isSome then _ else _) = _
        rw [if_neg h2]
      rw [e2, h4]
/-- A fault of what was read lies where it lay: what it reads is one with the list's own reading. -/
theorem Wi.gath_on : ∀ (n : Nat) (l : List Int) (s : Rs), s.In → (Wi.gath n l s).2.In ∧ (Wi.gath n l s).2.t = s.t ∧ (Wi.gath n l s).1.length ≤ l.length + n
  | 0, l, s, h => ⟨h, rfl, Nat.le_refl _⟩
  | n + 1, l, s, h => by
    by_cases h2 : s.f.isSome = true
    · rw [Wi.gath_bad _ _ _ h2]
      exact ⟨h, rfl, by simp only; omega⟩
    · have e : Wi.gath (n + 1) l s = Wi.gath n (l ++ [s.int.1]) s.int.2 := by
        show (if s.f.isSome then _ else _) = _
        rw [if_neg h2]
      obtain ⟨i1, i2, -, -⟩ := Wi.int_on s h
      obtain ⟨g1, g2, g3⟩ := Wi.gath_on n (l ++ [s.int.1]) s.int.2 i1
      rw [e]
      exact ⟨g1, g2.trans i2, by rw [List.length_append] at g3; simp only [List.length_cons, List.length_nil] at g3; omega⟩
end Go.Proofs
