import Derived.Test.YtjfhpgafglmhdabDoorRefWord
import Derived.Test.YtjfhpgafglmhdabDoorMath1
namespace Go.Sg
theorem rows_rise : ∀ k, k < 18 → rowL k < rowF (k + 1) := by decide
theorem rows_rise' (j : Nat) (hj : j < 19) : ∀ d k, k + d + 1 = j → rowL k < rowF j
  | 0, k, h => by
    obtain rfl : j = k + 1 := (by omega)
    exact rows_rise k (by omega)
  | d + 1, k, h => by
    have h1 := rows_rise' j hj d (k + 1) (by omega)
    have h2 := rows_rise k (by omega)
    have h3 := row_facts (k + 1) (by omega)
    omega
theorem small_of_row (j : Nat) (hj : j < 19) (r : Int) (h1 : rowF j ≤ r) (h2 : r ≤ rowL j) (h3 : (r - rowF j) % rowS j = 0) : small r = r + rowP j := by
  have key : ∀ d k, k + d = j → smallGo (19 - k) k r = r + rowP j := by
    intro d
    induction d with
    | zero =>
      intro k hk
      obtain rfl : k = j := (by omega)
      rw [smallGo_at k hj, if_neg (by omega), if_pos ⟨h2, h3⟩]
    | succ d ih =>
      intro k hk
      have h4 := rows_rise' j hj d k (by omega)
      have h5 := row_facts k (by omega)
      rw [smallGo_at k (by omega), if_neg (by omega), if_neg (by omega)]
      exact ih (k + 1) (by omega)
  exact key j 0 (by omega)
theorem small_none (r : Int) (h : ∀ j, j < 19 → ¬ (rowF j ≤ r ∧ r ≤ rowL j ∧ (r - rowF j) % rowS j = 0)) : small r = r := by
  rcases small_cases r with e | ⟨j, hj, h1, h2, h3, _⟩
  · exact e
  · exact absurd ⟨h1, h2, h3⟩ (h j hj)
/-- S2's table, as the second text has it. -/
def Plus32 (r : Int) : Prop := (65 ≤ r ∧ r ≤ 90) ∨ ((192 ≤ r ∧ r ≤ 222) ∧ r ≠ 215) ∨ (913 ≤ r ∧ r ≤ 929) ∨ (931 ≤ r ∧ r ≤ 939) ∨ (1040 ≤ r ∧ r ≤ 1071) ∨ (65313 ≤ r ∧ r ≤ 65338)
def Even1 (r : Int) : Prop := r % 2 = 0 ∧ ((256 ≤ r ∧ r ≤ 303) ∨ (306 ≤ r ∧ r ≤ 311) ∨ (330 ≤ r ∧ r ≤ 375))
def Odd1 (r : Int) : Prop := ¬ r % 2 = 0 ∧ ((313 ≤ r ∧ r ≤ 328) ∨ (377 ≤ r ∧ r ≤ 382))
theorem small_32 (r : Int) (h : Plus32 r) : small r = r + 32 := by
  unfold Plus32 at h
  rcases h with h | h | h | h | h | h
  · exact small_of_row 0 (by omega) r (show (65 : Int) ≤ r from h.1) (show r ≤ (90 : Int) from h.2) (show (r - 65) % 1 = 0 by omega)
  · by_cases c : r ≤ 214
    · exact small_of_row 1 (by omega) r (show (192 : Int) ≤ r by omega) (show r ≤ (214 : Int) by omega) (show (r - 192) % 1 = 0 by omega)
    · exact small_of_row 2 (by omega) r (show (216 : Int) ≤ r by omega) (show r ≤ (222 : Int) by omega) (show (r - 216) % 1 = 0 by omega)
  · exact small_of_row 13 (by omega) r (show (913 : Int) ≤ r from h.1) (show r ≤ (929 : Int) from h.2) (show (r - 913) % 1 = 0 by omega)
  · exact small_of_row 14 (by omega) r (show (931 : Int) ≤ r from h.1) (show r ≤ (939 : Int) from h.2) (show (r - 931) % 1 = 0 by omega)
  · exact small_of_row 17 (by omega) r (show (1040 : Int) ≤ r from h.1) (show r ≤ (1071 : Int) from h.2) (show (r - 1040) % 1 = 0 by omega)
  · exact small_of_row 18 (by omega) r (show (65313 : Int) ≤ r from h.1) (show r ≤ (65338 : Int) from h.2) (show (r - 65313) % 1 = 0 by omega)
theorem small_even (r : Int) (h : Even1 r) : small r = r + 1 := by
  obtain ⟨h0, h | h | h⟩ := h
  · exact small_of_row 3 (by omega) r (show (256 : Int) ≤ r by omega) (show r ≤ (302 : Int) by omega) (show (r - 256) % 2 = 0 by omega)
  · exact small_of_row 4 (by omega) r (show (306 : Int) ≤ r by omega) (show r ≤ (310 : Int) by omega) (show (r - 306) % 2 = 0 by omega)
  · exact small_of_row 6 (by omega) r (show (330 : Int) ≤ r by omega) (show r ≤ (374 : Int) by omega) (show (r - 330) % 2 = 0 by omega)
theorem small_odd (r : Int) (h : Odd1 r) : small r = r + 1 := by
  obtain ⟨h0, h | h⟩ := h
  · exact small_of_row 5 (by omega) r (show (313 : Int) ≤ r by omega) (show r ≤ (327 : Int) by omega) (show (r - 313) % 2 = 0 by omega)
  · exact small_of_row 8 (by omega) r (show (377 : Int) ≤ r by omega) (show r ≤ (381 : Int) by omega) (show (r - 377) % 2 = 0 by omega)
theorem small_37 (r : Int) (h : 904 ≤ r ∧ r ≤ 906) : small r = r + 37 := small_of_row 10 (by omega) r (show (904 : Int) ≤ r by omega) (show r ≤ (906 : Int) by omega) (show (r - 904) % 1 = 0 by omega)
theorem small_63 (r : Int) (h : 910 ≤ r ∧ r ≤ 911) : small r = r + 63 := small_of_row 12 (by omega) r (show (910 : Int) ≤ r by omega) (show r ≤ (911 : Int) by omega) (show (r - 910) % 1 = 0 by omega)
theorem small_80 (r : Int) (h : 1024 ≤ r ∧ r ≤ 1039) : small r = r + 80 := small_of_row 16 (by omega) r (show (1024 : Int) ≤ r by omega) (show r ≤ (1039 : Int) by omega) (show (r - 1024) % 1 = 0 by omega)
theorem small_376 : small 376 = 255 := by decide +kernel
theorem small_902 : small 902 = 940 := by decide +kernel
theorem small_908 : small 908 = 972 := by decide +kernel
theorem small_962 : small 962 = 963 := by decide +kernel
theorem small_else (r : Int) (a : ¬ Plus32 r) (b : ¬ Even1 r) (c : ¬ Odd1 r) (d : ¬ (904 ≤ r ∧ r ≤ 906)) (e : ¬ (910 ≤ r ∧ r ≤ 911)) (f : ¬ (1024 ≤ r ∧ r ≤ 1039)) (g1 : r ≠ 376) (g2 : r ≠ 902) (g3 : r ≠ 908) (g4 : r ≠ 962) : small r = r := by
  unfold Plus32 at a
  unfold Even1 at b
  unfold Odd1 at c
  apply small_none
  intro j hj h
  obtain ⟨h1, h2, h3⟩ := h
  match j, hj, h1, h2, h3 with
  | 0, _, h1, h2, h3 => have h1' : (65 : Int) ≤ r := h1; have h2' : r ≤ (90 : Int) := h2; omega
  | 1, _, h1, h2, h3 => have h1' : (192 : Int) ≤ r := h1; have h2' : r ≤ (214 : Int) := h2; omega
  | 2, _, h1, h2, h3 => have h1' : (216 : Int) ≤ r := h1; have h2' : r ≤ (222 : Int) := h2; omega
  | 3, _, h1, h2, h3 => have h1' : (256 : Int) ≤ r := h1; have h2' : r ≤ (302 : Int) := h2; have h3' : (r - 256) % 2 = 0 := h3; omega
  | 4, _, h1, h2, h3 => have h1' : (306 : Int) ≤ r := h1; have h2' : r ≤ (310 : Int) := h2; have h3' : (r - 306) % 2 = 0 := h3; omega
  | 5, _, h1, h2, h3 => have h1' : (313 : Int) ≤ r := h1; have h2' : r ≤ (327 : Int) := h2; have h3' : (r - 313) % 2 = 0 := h3; omega
  | 6, _, h1, h2, h3 => have h1' : (330 : Int) ≤ r := h1; have h2' : r ≤ (374 : Int) := h2; have h3' : (r - 330) % 2 = 0 := h3; omega
  | 7, _, h1, h2, h3 => have h1' : (376 : Int) ≤ r := h1; have h2' : r ≤ (376 : Int) := h2; omega
  | 8, _, h1, h2, h3 => have h1' : (377 : Int) ≤ r := h1; have h2' : r ≤ (381 : Int) := h2; have h3' : (r - 377) % 2 = 0 := h3; omega
  | 9, _, h1, h2, h3 => have h1' : (902 : Int) ≤ r := h1; have h2' : r ≤ (902 : Int) := h2; omega
  | 10, _, h1, h2, h3 => have h1' : (904 : Int) ≤ r := h1; have h2' : r ≤ (906 : Int) := h2; omega
  | 11, _, h1, h2, h3 => have h1' : (908 : Int) ≤ r := h1; have h2' : r ≤ (908 : Int) := h2; omega
  | 12, _, h1, h2, h3 => have h1' : (910 : Int) ≤ r := h1; have h2' : r ≤ (911 : Int) := h2; omega
  | 13, _, h1, h2, h3 => have h1' : (913 : Int) ≤ r := h1; have h2' : r ≤ (929 : Int) := h2; omega
  | 14, _, h1, h2, h3 => have h1' : (931 : Int) ≤ r := h1; have h2' : r ≤ (939 : Int) := h2; omega
  | 15, _, h1, h2, h3 => have h1' : (962 : Int) ≤ r := h1; have h2' : r ≤ (962 : Int) := h2; omega
  | 16, _, h1, h2, h3 => have h1' : (1024 : Int) ≤ r := h1; have h2' : r ≤ (1039 : Int) := h2; omega
  | 17, _, h1, h2, h3 => have h1' : (1040 : Int) ≤ r := h1; have h2' : r ≤ (1071 : Int) := h2; omega
  | 18, _, h1, h2, h3 => have h1' : (65313 : Int) ≤ r := h1; have h2' : r ≤ (65338 : Int) := h2; omega
  | j + 19, hj, _, _, _ => omega
end Go.Sg
