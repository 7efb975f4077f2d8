/-
  What lies on a disk, plain: writes one by one, the views behind a journal's calls where no fuse is set.
-/
import Derived.Test.YtbnokhaimcpggaaEn
namespace Go.Dk
theorem op_wr_view {s : DS} (h : s.fset = false) (i : Nat) (b : List UInt8) : (s.op (.wr i b)).1.view = put s.view i (pad b) := by
  have hb : s.blow = false := by unfold DS.blow; rw [h]; rfl
  simp only [DS.op, hb, Bool.false_eq_true, if_false]
  exact sink_one _ _ _
theorem op_sy_view {s : DS} (h : s.fset = false) : (s.op .sy).1.view = s.view ∧ (s.op .sy).1.W = [] ∧ (s.op .sy).1.L = s.view := by
  have hb : s.blow = false := by unfold DS.blow; rw [h]; rfl
  simp only [DS.op, hb, Bool.false_eq_true, if_false]
  exact ⟨rfl, rfl, rfl⟩
theorem pad_get {b : List UInt8} (h : b.length ≤ 64) {j : Nat} (hj : j < 64) : (pad b)[j]? = some (b.getD j 0) := by
  unfold pad
  rw [List.getElem?_append]
  split
  · rename_i h1
    rw [List.getElem?_eq_getElem h1]; simp [List.getD, h1]
  · rename_i h1
    rw [List.getElem?_replicate, if_pos (by omega)]
    simp [List.getD, List.getElem?_eq_none (by omega : b.length ≤ j)]
/-- Byte by byte. -/
theorem run_chunks_get {n : Nat} : ∀ (c i : Nat) (row : List UInt8) (s : DS), s.fset = false → s.view.length = 64 * n → i + c ≤ n → ((s.run (chunks c i row)).1.view.length = 64 * n ∧ ∀ j, (s.run (chunks c i row)).1.view[j]? = if 64 * i ≤ j ∧ j < 64 * (i + c) then some (row.getD (j - 64 * i) 0) else s.view[j]?)
  | 0, i, row, s, _, hl, _ => ⟨hl, fun j => by rw [if_neg (by omega)]; rfl⟩
  | c + 1, i, row, s, hf, hl, hi => by
    have h1 := op_free s (.wr i (row.take 64)) hf
    have hv := op_wr_view hf i (row.take 64)
    have hpl : (pad (row.take 64)).length = 64 := pad_length (by rw [List.length_take]; omega)
    have hl1 : (s.op (.wr i (row.take 64))).1.view.length = 64 * n := by rw [hv, length_put (by rw [hpl, hl]; omega), hl]
    have ih := run_chunks_get c (i + 1) (row.drop 64) _ h1.2 hl1 (by omega)
    simp only [chunks, DS.run, andThen, h1.1, if_true]
    refine ⟨ih.1, fun j => ?_⟩
    rw [ih.2 j, hv, get_put (by rw [hpl, hl]; omega), hpl]
    by_cases a1 : 64 * (i + 1) ≤ j ∧ j < 64 * (i + 1 + c)
    · rw [if_pos a1, if_pos (by omega)]
      simp only [List.getD, List.getElem?_drop]
      rw [show 64 + (j - 64 * (i + 1)) = j - 64 * i by omega]
    · rw [if_neg a1]
      by_cases a2 : j < 64 * i
      · rw [if_pos a2, if_neg (by omega)]
      · rw [if_neg a2]
        by_cases a3 : j < 64 * i + 64
        · rw [if_pos a3, if_pos (by omega), pad_get (by rw [List.length_take]; omega) (by omega)]
          simp only [List.getD, List.getElem?_take]
          rw [if_pos (by omega)]
        · rw [if_neg a3, if_neg (by omega)]
theorem run_fset (ops : List Op) {s : DS} (h : s.fset = false) : (s.run ops).1.fset = false := (run_free ops s h).2
end Go.Dk
