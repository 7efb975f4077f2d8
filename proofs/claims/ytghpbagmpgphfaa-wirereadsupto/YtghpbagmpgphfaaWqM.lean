/-
  keep of lists: a row that is filled with a mark, step by step.
-/
import Derived.Test.YtghpbagmpgphfaaWqL
import Derived.Deep.DeepCutAuto
namespace Go.Proofs
open Go.RowKit Go.Wi
theorem Wi.row_set {w : World} {B n : Nat} {T : TypeId} {V : Value} {xs : List Value} (h : w.ownsRow B T 1 V n xs) {g : Nat} (hg : V.ownBlock = some g) (i : Nat) (u : Value) : (w.setCell ⟨g, i, none⟩ u).ownsRow B T 1 V n (xs.set i u) := by
  refine ⟨by rw [List.length_set]; exact h.1, ?_⟩
  rcases h.2 with ⟨e, e0⟩ | ⟨g', cap, cur, e, hB, hh, h1, h2, h3, h4⟩
  · rw [e] at hg; cases hg
  · subst e
    cases hg
    refine .inr ⟨g', cap, _, rfl, hB, heap_setCell_same w g' i cur T u hh, h1, h2, by simpa using h3, ?_⟩
    rw [← h4]
    simp [List.take_set]
theorem Wi.ics_fill (bs : List Int) (m : Int) (k : Nat) (hk : k < bs.length) : (Wi.ics (List.replicate k m ++ bs.drop k)).set k (.int .i64 m) = Wi.ics (List.replicate (k + 1) m ++ bs.drop (k + 1)) := by
  have e1 : bs.drop k = bs[k] :: bs.drop (k + 1) := List.drop_eq_getElem_cons hk
  have e2 : List.replicate (k + 1) m ++ bs.drop (k + 1) = List.replicate k m ++ (m :: bs.drop (k + 1)) := by rw [List.replicate_succ', List.append_assoc]; rfl
  rw [e1, e2]
  simp only [Wi.ics, List.map_append, List.map_cons]
  rw [List.set_append_right _ _ (by simp)]
  simp
theorem Try.fill_cell {w : World} {V : Value} {n : Nat} {bs : List Int} (h : w.ownsRow 0 2 1 V n (Wi.ics bs)) {k : Nat} (hk : k < bs.length) : ∃ g, V.ownBlock = some g ∧ w.cell? ⟨g, k, none⟩ = some (.int .i64 bs[k]) ∧ w.frozen? ⟨g, k, none⟩ = false := by
  have hl := h.1
  rw [Wi.ics_len] at hl
  rcases h.2 with ⟨e, e0⟩ | ⟨g, cap, cur, e, -, hh, -⟩
  · omega
  · subst e
    have c1 := h.cells (g := g) rfl k (.int .i64 bs[k]) (by simp [Wi.ics, hk])
    rw [Addr.add_mid, Nat.zero_add] at c1
    exact ⟨g, rfl, c1, frozen_of_row _ _ _ _ _ hh⟩
end Go.Proofs
