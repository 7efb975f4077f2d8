import Derived.Test.YtjfhpgafglmhdabDoorProg
import Derived.Test.YtjfhpgafglmhdabDoorPlain
import Derived.WalkKit
import Derived.WalkLawsBesides
import Derived.WalkSpells
import Derived.Deep.QuietTactic
import Derived.BigQuiet
import Derived.Outline
namespace Go.Proofs
open Go.RowKit
/-- 'between', both answers. -/
theorem Tryd.between_yes (r a b : Int) (w : World) (h : a ≤ r ∧ r ≤ b) :
    Calls Tryd.prog 62 #[.int .i32 r, .int .i32 a, .int .i32 b] w fun e w' => e = .returned (.bool true) ∧ w' = w := by
  obtain ⟨h1, h2⟩ := h
  go_enter Tryd.func62, Tryd.ntmps62
  go_wp2
  go_ret
  simp
theorem Tryd.between_no (r a b : Int) (w : World) (h : ¬ (a ≤ r ∧ r ≤ b)) :
    Calls Tryd.prog 62 #[.int .i32 r, .int .i32 a, .int .i32 b] w fun e w' => e = .returned (.bool false) ∧ w' = w := by
  by_cases h1 : a ≤ r
  · have h2 : ¬ r ≤ b := by omega
    clear h
    go_enter Tryd.func62, Tryd.ntmps62
    go_wp2
    go_ret
    simp
  · clear h
    go_enter Tryd.func62, Tryd.ntmps62
    go_wp2
    go_ret
    exact ⟨rfl, rfl⟩
set_option maxHeartbeats 1000000 in
theorem Tryd.isWord_lo (r : Int) (w : World) (hr : r < 192) :
    Calls Tryd.prog 52 #[.int .i32 r] w fun e w' => e = .returned (.bool (Sg.wordB r)) ∧ w' = w := by
  by_cases h1 : 48 ≤ r ∧ r ≤ 57
  · have e : Sg.wordB r = true := by simp [Sg.wordB, hr, h1]
    rw [e]
    clear e
    go_enter Tryd.func52, Tryd.ntmps52
    go_wp2_with (go_at_call 62; first | (refine (Tryd.between_yes _ _ _ _ (by omega)).mono ?_; rintro e w' ⟨rfl, rfl⟩) | (refine (Tryd.between_no _ _ _ _ (by omega)).mono ?_; rintro e w' ⟨rfl, rfl⟩))
    go_ret
    exact ⟨rfl, rfl⟩
  · by_cases h2 : 65 ≤ r ∧ r ≤ 90
    · have e : Sg.wordB r = true := by simp [Sg.wordB, hr, h2]
      rw [e]
      clear e
      go_enter Tryd.func52, Tryd.ntmps52
      go_wp2_with (go_at_call 62; first | (refine (Tryd.between_yes _ _ _ _ (by omega)).mono ?_; rintro e w' ⟨rfl, rfl⟩) | (refine (Tryd.between_no _ _ _ _ (by omega)).mono ?_; rintro e w' ⟨rfl, rfl⟩))
      go_ret
      exact ⟨rfl, rfl⟩
    · by_cases h3 : 97 ≤ r ∧ r ≤ 122
      · have e : Sg.wordB r = true := by simp [Sg.wordB, hr, h3]
        rw [e]
        clear e
        go_enter Tryd.func52, Tryd.ntmps52
        go_wp2_with (go_at_call 62; first | (refine (Tryd.between_yes _ _ _ _ (by omega)).mono ?_; rintro e w' ⟨rfl, rfl⟩) | (refine (Tryd.between_no _ _ _ _ (by omega)).mono ?_; rintro e w' ⟨rfl, rfl⟩))
        go_ret
        exact ⟨rfl, rfl⟩
      · have e : Sg.wordB r = (r == 95) := by
          unfold Sg.wordB
          rw [if_pos hr, decide_eq_false h1, decide_eq_false h2, decide_eq_false h3]
          apply Bool.eq_iff_iff.2
          simp
        rw [e]
        clear e
        go_enter Tryd.func52, Tryd.ntmps52
        go_wp2_with (go_at_call 62; first | (refine (Tryd.between_yes _ _ _ _ (by omega)).mono ?_; rintro e w' ⟨rfl, rfl⟩) | (refine (Tryd.between_no _ _ _ _ (by omega)).mono ?_; rintro e w' ⟨rfl, rfl⟩))
        go_ret
        exact ⟨rfl, rfl⟩
set_option maxHeartbeats 1000000 in
theorem Tryd.isWord_hi (r : Int) (w : World) (hr : ¬ r < 192) :
    Calls Tryd.prog 52 #[.int .i32 r] w fun e w' => e = .returned (.bool (Sg.wordB r)) ∧ w' = w := by
  by_cases h0 : r = 215 ∨ r = 247 ∨ r = 65533
  · have e : Sg.wordB r = false := by simp [Sg.wordB, hr, h0]
    rw [e]
    clear e
    rcases h0 with rfl | rfl | rfl
    all_goals
      go_enter Tryd.func52, Tryd.ntmps52
      go_wp2_with fail
      go_ret
      exact ⟨rfl, rfl⟩
  · have n1 : (r == 215) = false := beq_eq_false_iff_ne.2 (by omega)
    have n2 : (r == 247) = false := beq_eq_false_iff_ne.2 (by omega)
    have n3 : (r == 65533) = false := beq_eq_false_iff_ne.2 (by omega)
    by_cases hx : (8192 ≤ r ∧ r ≤ 8303) ∨ (12288 ≤ r ∧ r ≤ 12351) ∨ (55296 ≤ r ∧ r ≤ 57343) ∨ (65280 ≤ r ∧ r ≤ 65295)
    · have e : Sg.wordB r = false := by unfold Sg.wordB; rw [if_neg hr, if_neg h0, if_pos hx]
      rw [e]
      clear e h0
      rcases hx with hx | hx | hx | hx
      all_goals
        go_enter Tryd.func52, Tryd.ntmps52
        go_wp2_with (go_at_call 62; first | (refine (Tryd.between_yes _ _ _ _ (by omega)).mono ?_; rintro e w' ⟨rfl, rfl⟩) | (refine (Tryd.between_no _ _ _ _ (by omega)).mono ?_; rintro e w' ⟨rfl, rfl⟩))
        go_ret
        exact ⟨rfl, rfl⟩
    · have e : Sg.wordB r = decide (r ≤ 1114111) := by unfold Sg.wordB; rw [if_neg hr, if_neg h0, if_neg hx]
      rw [e]
      clear e h0
      have h1 : ¬ (8192 ≤ r ∧ r ≤ 8303) := by omega
      have h2 : ¬ (12288 ≤ r ∧ r ≤ 12351) := by omega
      have h3 : ¬ (55296 ≤ r ∧ r ≤ 57343) := by omega
      have h4 : ¬ (65280 ≤ r ∧ r ≤ 65295) := by omega
      clear hx
      go_enter Tryd.func52, Tryd.ntmps52
      go_wp2_with (go_at_call 62; first | (refine (Tryd.between_yes _ _ _ _ (by omega)).mono ?_; rintro e w' ⟨rfl, rfl⟩) | (refine (Tryd.between_no _ _ _ _ (by omega)).mono ?_; rintro e w' ⟨rfl, rfl⟩))
      go_ret
      exact ⟨rfl, rfl⟩
theorem Tryd.isWord_any (r : Int) (w : World) :
    Calls Tryd.prog 52 #[.int .i32 r] w fun e w' => e = .returned (.bool (Sg.wordB r)) ∧ w' = w := by
  by_cases hr : r < 192
  · exact Tryd.isWord_lo r w hr
  · exact Tryd.isWord_hi r w hr
end Go.Proofs
