/-
  A text that is printed is read as itself: plain. Nothing of the program.
-/
import Derived.Test.YtejibjeidklnkaaGreatDoorJz
import Derived.Lib.MapLaws
import Derived.Lib.ValidLaws
import Derived.Lib.TrimUEq
import Derived.Lib.TrimAscii
namespace Go.Jv
open Go.Lib
set_option maxHeartbeats 2000000 in
theorem decN_same (n b0 b1 b2 b3 n' c1 c2 c3 : Nat) (h : ¬ ((decodeN n b0 b1 b2 b3).1 = 65533 ∧ (decodeN n b0 b1 b2 b3).2 = 1)) (hn : (decodeN n b0 b1 b2 b3).2 ≤ n') (e1 : 1 < (decodeN n b0 b1 b2 b3).2 → c1 = b1) (e2 : 2 < (decodeN n b0 b1 b2 b3).2 → c2 = b2) (e3 : 3 < (decodeN n b0 b1 b2 b3).2 → c3 = b3) :
    decodeN n' b0 c1 c2 c3 = decodeN n b0 b1 b2 b3 := by
  unfold decodeN at h hn e1 e2 e3 ⊢
  by_cases a0 : b0 < 128
  · simp only [if_pos a0]
  · simp only [if_neg a0] at h hn e1 e2 e3 ⊢
    by_cases a1 : b0 / 32 = 6 ∧ (1 < n ∧ b1 / 64 = 2)
    · simp only [if_pos a1] at h hn e1 e2 e3 ⊢
      by_cases d1 : b0 % 32 * 64 + b1 % 64 ≥ 128
      · simp only [if_pos d1] at h hn e1 e2 e3 ⊢
        have q := e1 (by omega)
        subst q
        rw [if_pos ⟨a1.1, by omega, a1.2.2⟩, if_pos d1]
      · simp only [if_neg d1] at h
        exact absurd ⟨trivial, trivial⟩ h
    · simp only [if_neg a1] at h hn e1 e2 e3 ⊢
      by_cases a2 : b0 / 16 = 14 ∧ (1 < n ∧ b1 / 64 = 2) ∧ (2 < n ∧ b2 / 64 = 2)
      · simp only [if_pos a2] at h hn e1 e2 e3 ⊢
        split at h
        · rename_i d2
          simp only [if_pos d2] at hn e1 e2 e3 ⊢
          have q1 := e1 (by omega)
          have q2 := e2 (by omega)
          subst q1 q2
          rw [if_neg (by omega), if_pos ⟨a2.1, ⟨by omega, a2.2.1.2⟩, ⟨by omega, a2.2.2.2⟩⟩, if_pos d2]
        · exact absurd ⟨rfl, rfl⟩ h
      · simp only [if_neg a2] at h hn e1 e2 e3 ⊢
        by_cases a3 : b0 / 8 = 30 ∧ (1 < n ∧ b1 / 64 = 2) ∧ (2 < n ∧ b2 / 64 = 2) ∧ (3 < n ∧ b3 / 64 = 2)
        · simp only [if_pos a3] at h hn e1 e2 e3 ⊢
          split at h
          · rename_i d3
            simp only [if_pos d3] at hn e1 e2 e3 ⊢
            have q1 := e1 (by omega)
            have q2 := e2 (by omega)
            have q3 := e3 (by omega)
            subst q1 q2 q3
            rw [if_neg (by omega), if_neg (by omega), if_pos ⟨a3.1, ⟨by omega, a3.2.1.2⟩, ⟨by omega, a3.2.2.1.2⟩, ⟨by omega, a3.2.2.2.2⟩⟩, if_pos d3]
          · exact absurd ⟨rfl, rfl⟩ h
        · simp only [if_neg a3] at h
          exact absurd ⟨trivial, trivial⟩ h
set_option maxHeartbeats 2000000 in
/-- A sequence that is right is whole; behind its first byte are great ones. -/
theorem decN_full (n b0 b1 b2 b3 : Nat) (l0 : b0 < 256) (l1 : b1 < 256) (l2 : b2 < 256) (l3 : b3 < 256) (hb : 128 ≤ b0) (h : ¬ ((decodeN n b0 b1 b2 b3).1 = 65533 ∧ (decodeN n b0 b1 b2 b3).2 = 1)) :
    firstT b0 % 8 = (decodeN n b0 b1 b2 b3).2 ∧ (1 < (decodeN n b0 b1 b2 b3).2 → 128 ≤ b1) ∧ (2 < (decodeN n b0 b1 b2 b3).2 → 128 ≤ b2) ∧ (3 < (decodeN n b0 b1 b2 b3).2 → 128 ≤ b3) ∧ (decodeN n b0 b1 b2 b3).2 ≤ 4 := by
  unfold decodeN at h ⊢
  rw [if_neg (by omega)] at h ⊢
  split at h
  · rename_i a1
    rw [if_pos a1]
    split at h
    · rename_i d
      rw [if_pos d]
      refine ⟨?_, fun _ => by omega, fun h => absurd h (by simp), fun h => absurd h (by simp), by simp⟩
      unfold firstT
      repeat' split
      all_goals first | rfl | (exfalso; omega)
    · exact absurd ⟨rfl, rfl⟩ h
  · rename_i a1
    rw [if_neg a1]
    split at h
    · rename_i a2
      rw [if_pos a2]
      split at h
      · rename_i d
        rw [if_pos d]
        refine ⟨?_, fun _ => by omega, fun _ => by omega, fun h => absurd h (by simp), by simp⟩
        unfold firstT
        repeat' split
        all_goals first | rfl | (exfalso; omega)
      · exact absurd ⟨rfl, rfl⟩ h
    · rename_i a2
      rw [if_neg a2]
      split at h
      · rename_i a3
        rw [if_pos a3]
        split at h
        · rename_i d
          rw [if_pos d]
          refine ⟨?_, fun _ => by omega, fun _ => by omega, fun _ => by omega, by simp⟩
          unfold firstT
          repeat' split
          all_goals first | rfl | (exfalso; omega)
        · exact absurd ⟨rfl, rfl⟩ h
      · exact absurd ⟨rfl, rfl⟩ h
end Go.Jv
