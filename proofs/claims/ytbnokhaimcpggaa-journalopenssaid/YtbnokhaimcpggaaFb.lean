/-
  An area behind 'into'.
-/
import Derived.Test.YtbnokhaimcpggaaFa
namespace Go.Dk
/-- Where an area begins. -/
def abeg (n side : Nat) : Nat := 64 * (2 + side * half n)
theorem area_get (v : List UInt8) (n side q : Nat) : (area v n side)[q]? = if q < 64 * half n then v[abeg n side + q]? else none := by
  unfold area abeg
  rw [List.getElem?_take, List.getElem?_drop]
theorem abeg_le {n side : Nat} (hn : 2 ≤ n) (hs : side ≤ 1) : abeg n side + 64 * half n ≤ 64 * n := by
  unfold abeg half
  rcases (show side = 0 ∨ side = 1 by omega) with rfl | rfl <;> omega
theorem ablk_beg (n side p : Nat) : 64 * ablk n side p = abeg n side + 64 * (p / 64) := by unfold ablk abeg; omega
theorem into_get {s : DS} (hf : s.fset = false) (hl : s.view.length = 64 * s.n) (hn : 2 ≤ s.n) {side p : Nat} (hs : side ≤ 1) {b : List UInt8} (hp : p < 64 * half s.n) (hb : p + b.length ≤ 64 * half s.n) :
    (s.into side p b).1.fset = false ∧ (s.into side p b).1.n = s.n ∧ (s.into side p b).1.view.length = 64 * s.n ∧
    (∀ q, q < 64 * half s.n → (s.into side p b).1.view[abeg s.n side + q]? = if q < p then s.view[abeg s.n side + q]? else if q < p + b.length then b[q - p]? else if q < 64 * (p / 64 + span s.n p (p + b.length)) then some 0 else s.view[abeg s.n side + q]?) ∧
    (∀ j, j < abeg s.n side ∨ abeg s.n side + 64 * half s.n ≤ j → (s.into side p b).1.view[j]? = s.view[j]?) := by
  have hsp : p / 64 + span s.n p (p + b.length) ≤ half s.n := by unfold span; omega
  have hbe := abeg_le hn hs
  have hI := ablk_beg s.n side p
  have hbl : (blk s.view (ablk s.n side p)).length = 64 := blk_length hl (by omega)
  unfold DS.into
  obtain ⟨h1, h2⟩ := run_chunks_get (n := s.n) (span s.n p (p + b.length)) (ablk s.n side p) ((blk s.view (ablk s.n side p)).take (p % 64) ++ b) s hf hl (by omega)
  refine ⟨run_fset _ hf, run_n _ _, h1, fun q hq => ?_, fun j hj => ?_⟩
  · rw [h2]
    have hpm : p = 64 * (p / 64) + p % 64 := (Nat.div_add_mod p 64).symm
    by_cases a0 : q < p
    · rw [if_pos a0]
      by_cases a1 : 64 * ablk s.n side p ≤ abeg s.n side + q ∧ abeg s.n side + q < 64 * (ablk s.n side p + span s.n p (p + b.length))
      · rw [if_pos a1]
        have ht : abeg s.n side + q - 64 * ablk s.n side p < p % 64 := by omega
        simp only [List.getD]
        rw [List.getElem?_append_left (by rw [List.length_take, hbl]; omega), List.getElem?_take, if_pos ht, get_blk, if_pos (by omega), show 64 * ablk s.n side p + (abeg s.n side + q - 64 * ablk s.n side p) = abeg s.n side + q by omega]
        rw [List.getElem?_eq_getElem (by omega)]
        rfl
      · rw [if_neg a1]
    · rw [if_neg a0]
      by_cases a1 : q < p + b.length
      · rw [if_pos a1, if_pos (by unfold span at *; omega)]
        simp only [List.getD]
        rw [List.getElem?_append_right (by rw [List.length_take, hbl]; omega), List.length_take, hbl, show abeg s.n side + q - 64 * ablk s.n side p - min (p % 64) 64 = q - p by omega, List.getElem?_eq_getElem (by omega)]
        rfl
      · rw [if_neg a1]
        by_cases a2 : q < 64 * (p / 64 + span s.n p (p + b.length))
        · rw [if_pos a2, if_pos (by omega)]
          simp only [List.getD]
          rw [List.getElem?_eq_none (by rw [List.length_append, List.length_take, hbl]; omega)]
          rfl
        · rw [if_neg a2, if_neg (by omega)]
  · rw [h2, if_neg (by omega)]
end Go.Dk
