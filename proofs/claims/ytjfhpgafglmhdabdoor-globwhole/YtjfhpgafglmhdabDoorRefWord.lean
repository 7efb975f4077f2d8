import Derived.Test.YtjfhpgafglmhdabDoorWord
namespace Go.Proofs
open Go.RowKit
theorem Tryd.rwithin_yes (r a b : Int) (w : World) (h : a ≤ r ∧ r ≤ b) :
    Calls Tryd.prog 59 #[.int .i64 r, .int .i64 a, .int .i64 b] w fun e w' => e = .returned (.bool true) ∧ w' = w := by
  obtain ⟨h1, h2⟩ := h
  go_enter Tryd.func59, Tryd.ntmps59
  go_wp2
  go_ret
  simp
theorem Tryd.rwithin_no (r a b : Int) (w : World) (h : ¬ (a ≤ r ∧ r ≤ b)) :
    Calls Tryd.prog 59 #[.int .i64 r, .int .i64 a, .int .i64 b] w fun e w' => e = .returned (.bool false) ∧ w' = w := by
  by_cases h1 : a ≤ r
  · have h2 : ¬ r ≤ b := by omega
    clear h
    go_enter Tryd.func59, Tryd.ntmps59
    go_wp2
    go_ret
    simp
  · clear h
    go_enter Tryd.func59, Tryd.ntmps59
    go_wp2
    go_ret
    exact ⟨rfl, rfl⟩
theorem Sg.wordB_lo (r : Int) (h : (48 ≤ r ∧ r ≤ 57) ∨ (65 ≤ r ∧ r ≤ 90) ∨ (97 ≤ r ∧ r ≤ 122) ∨ r = 95) : Sg.wordB r = true := by
  unfold Sg.wordB
  rw [if_pos (by omega)]
  simp
  omega
theorem Sg.wordB_no (r : Int) (h1 : ¬ (48 ≤ r ∧ r ≤ 57)) (h2 : ¬ (65 ≤ r ∧ r ≤ 90)) (h3 : ¬ (97 ≤ r ∧ r ≤ 122)) (h4 : ¬ r = 95) (h5 : ¬ (192 ≤ r ∧ r ≤ 1114111)) : Sg.wordB r = false := by
  unfold Sg.wordB
  by_cases h : r < 192
  · rw [if_pos h]
    simp [h1, h2, h3, h4]
  · rw [if_neg h, if_neg (by omega), if_neg (by omega)]
    simp
    omega
theorem Sg.wordB_out (r : Int) (h : r = 215 ∨ r = 247 ∨ r = 65533 ∨ (8192 ≤ r ∧ r ≤ 8303) ∨ (12288 ≤ r ∧ r ≤ 12351) ∨ (55296 ≤ r ∧ r ≤ 57343) ∨ (65280 ≤ r ∧ r ≤ 65295)) : Sg.wordB r = false := by
  unfold Sg.wordB
  rw [if_neg (by omega)]
  by_cases h0 : r = 215 ∨ r = 247 ∨ r = 65533
  · rw [if_pos h0]
  · rw [if_neg h0, if_pos (by omega)]
theorem Sg.wordB_hi (r : Int) (h5 : 192 ≤ r ∧ r ≤ 1114111) (h : ¬ (r = 215 ∨ r = 247 ∨ r = 65533 ∨ (8192 ≤ r ∧ r ≤ 8303) ∨ (12288 ≤ r ∧ r ≤ 12351) ∨ (55296 ≤ r ∧ r ≤ 57343) ∨ (65280 ≤ r ∧ r ≤ 65295))) : Sg.wordB r = true := by
  unfold Sg.wordB
  rw [if_neg (by omega), if_neg (by omega), if_neg (by omega)]
  simp
  omega
set_option maxHeartbeats 2000000 in
theorem Tryd.refWord_lo (r : Int) (w : World) (h0 : -2147483648 ≤ r) (h1 : r ≤ 2147483647) (h : (48 ≤ r ∧ r ≤ 57) ∨ (65 ≤ r ∧ r ≤ 90) ∨ (97 ≤ r ∧ r ≤ 122) ∨ r = 95) :
    Calls Tryd.prog 53 #[.int .i32 r] w fun e w' => e = .returned (.bool true) ∧ w' = w := by
  rcases h with h | h | h | rfl
  all_goals
    go_enter Tryd.func53, Tryd.ntmps53
    go_wp2_with (go_at_call 59; first | (refine (Tryd.rwithin_yes _ _ _ _ (by omega)).mono ?_; rintro e w' ⟨rfl, rfl⟩) | (refine (Tryd.rwithin_no _ _ _ _ (by omega)).mono ?_; rintro e w' ⟨rfl, rfl⟩))
    go_ret
    exact ⟨rfl, rfl⟩
set_option maxHeartbeats 2000000 in
theorem Tryd.refWord_no (r : Int) (w : World) (h0 : -2147483648 ≤ r) (hm : r ≤ 2147483647) (h1 : ¬ (48 ≤ r ∧ r ≤ 57)) (h2 : ¬ (65 ≤ r ∧ r ≤ 90)) (h3 : ¬ (97 ≤ r ∧ r ≤ 122)) (h4 : ¬ r = 95) (h5 : ¬ (192 ≤ r ∧ r ≤ 1114111)) :
    Calls Tryd.prog 53 #[.int .i32 r] w fun e w' => e = .returned (.bool false) ∧ w' = w := by
  have n4 : (r == 95) = false := beq_eq_false_iff_ne.2 h4
  go_enter Tryd.func53, Tryd.ntmps53
  go_wp2_with (go_at_call 59; first | (refine (Tryd.rwithin_yes _ _ _ _ (by omega)).mono ?_; rintro e w' ⟨rfl, rfl⟩) | (refine (Tryd.rwithin_no _ _ _ _ (by omega)).mono ?_; rintro e w' ⟨rfl, rfl⟩))
  go_ret
  exact ⟨rfl, rfl⟩
set_option maxHeartbeats 2000000 in
theorem Tryd.refWord_out (r : Int) (w : World) (h : r = 215 ∨ r = 247 ∨ r = 65533 ∨ (8192 ≤ r ∧ r ≤ 8303) ∨ (12288 ≤ r ∧ r ≤ 12351) ∨ (55296 ≤ r ∧ r ≤ 57343) ∨ (65280 ≤ r ∧ r ≤ 65295)) :
    Calls Tryd.prog 53 #[.int .i32 r] w fun e w' => e = .returned (.bool false) ∧ w' = w := by
  have n4 : (r == 95) = false := beq_eq_false_iff_ne.2 (by omega)
  rcases h with rfl | rfl | rfl | h | h | h | h
  · go_enter Tryd.func53, Tryd.ntmps53
    go_wp2_with (go_at_call 59; first | (refine (Tryd.rwithin_yes _ _ _ _ (by omega)).mono ?_; rintro e w' ⟨rfl, rfl⟩) | (refine (Tryd.rwithin_no _ _ _ _ (by omega)).mono ?_; rintro e w' ⟨rfl, rfl⟩))
    go_ret
    exact ⟨rfl, rfl⟩
  · go_enter Tryd.func53, Tryd.ntmps53
    go_wp2_with (go_at_call 59; first | (refine (Tryd.rwithin_yes _ _ _ _ (by omega)).mono ?_; rintro e w' ⟨rfl, rfl⟩) | (refine (Tryd.rwithin_no _ _ _ _ (by omega)).mono ?_; rintro e w' ⟨rfl, rfl⟩))
    go_ret
    exact ⟨rfl, rfl⟩
  · go_enter Tryd.func53, Tryd.ntmps53
    go_wp2_with (go_at_call 59; first | (refine (Tryd.rwithin_yes _ _ _ _ (by omega)).mono ?_; rintro e w' ⟨rfl, rfl⟩) | (refine (Tryd.rwithin_no _ _ _ _ (by omega)).mono ?_; rintro e w' ⟨rfl, rfl⟩))
    go_ret
    exact ⟨rfl, rfl⟩
  all_goals
    have n1 : (r == 215) = false := beq_eq_false_iff_ne.2 (by omega)
    have n2 : (r == 247) = false := beq_eq_false_iff_ne.2 (by omega)
    have n3 : (r == 65533) = false := beq_eq_false_iff_ne.2 (by omega)
    go_enter Tryd.func53, Tryd.ntmps53
    go_wp2_with (go_at_call 59; first | (refine (Tryd.rwithin_yes _ _ _ _ (by omega)).mono ?_; rintro e w' ⟨rfl, rfl⟩) | (refine (Tryd.rwithin_no _ _ _ _ (by omega)).mono ?_; rintro e w' ⟨rfl, rfl⟩))
    go_ret
    exact ⟨rfl, rfl⟩
set_option maxHeartbeats 2000000 in
theorem Tryd.refWord_hi (r : Int) (w : World) (h5 : 192 ≤ r ∧ r ≤ 1114111) (h : ¬ (r = 215 ∨ r = 247 ∨ r = 65533 ∨ (8192 ≤ r ∧ r ≤ 8303) ∨ (12288 ≤ r ∧ r ≤ 12351) ∨ (55296 ≤ r ∧ r ≤ 57343) ∨ (65280 ≤ r ∧ r ≤ 65295))) :
    Calls Tryd.prog 53 #[.int .i32 r] w fun e w' => e = .returned (.bool true) ∧ w' = w := by
  have n1 : (r == 215) = false := beq_eq_false_iff_ne.2 (by omega)
  have n2 : (r == 247) = false := beq_eq_false_iff_ne.2 (by omega)
  have n3 : (r == 65533) = false := beq_eq_false_iff_ne.2 (by omega)
  have n4 : (r == 95) = false := beq_eq_false_iff_ne.2 (by omega)
  have m1 : ¬ (8192 ≤ r ∧ r ≤ 8303) := by omega
  have m2 : ¬ (12288 ≤ r ∧ r ≤ 12351) := by omega
  have m3 : ¬ (55296 ≤ r ∧ r ≤ 57343) := by omega
  have m4 : ¬ (65280 ≤ r ∧ r ≤ 65295) := by omega
  clear h
  go_enter Tryd.func53, Tryd.ntmps53
  go_wp2_with (go_at_call 59; first | (refine (Tryd.rwithin_yes _ _ _ _ (by omega)).mono ?_; rintro e w' ⟨rfl, rfl⟩) | (refine (Tryd.rwithin_no _ _ _ _ (by omega)).mono ?_; rintro e w' ⟨rfl, rfl⟩))
  go_ret
  exact ⟨rfl, rfl⟩
theorem Tryd.refWord_any (r : Int) (w : World) (h0 : -2147483648 ≤ r) (h1 : r ≤ 2147483647) :
    Calls Tryd.prog 53 #[.int .i32 r] w fun e w' => e = .returned (.bool (Sg.wordB r)) ∧ w' = w := by
  by_cases a : (48 ≤ r ∧ r ≤ 57) ∨ (65 ≤ r ∧ r ≤ 90) ∨ (97 ≤ r ∧ r ≤ 122) ∨ r = 95
  · rw [Sg.wordB_lo r a]
    exact Tryd.refWord_lo r w h0 h1 a
  · by_cases b : 192 ≤ r ∧ r ≤ 1114111
    · by_cases c : r = 215 ∨ r = 247 ∨ r = 65533 ∨ (8192 ≤ r ∧ r ≤ 8303) ∨ (12288 ≤ r ∧ r ≤ 12351) ∨ (55296 ≤ r ∧ r ≤ 57343) ∨ (65280 ≤ r ∧ r ≤ 65295)
      · rw [Sg.wordB_out r c]
        exact Tryd.refWord_out r w c
      · rw [Sg.wordB_hi r b c]
        exact Tryd.refWord_hi r w b c
    · rw [Sg.wordB_no r (by omega) (by omega) (by omega) (by omega) b]
      exact Tryd.refWord_no r w h0 h1 (by omega) (by omega) (by omega) (by omega) b
end Go.Proofs
