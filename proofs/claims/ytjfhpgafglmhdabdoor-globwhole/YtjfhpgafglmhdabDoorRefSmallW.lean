import Derived.Test.YtjfhpgafglmhdabDoorRefSmall
namespace Go.Proofs
open Go.RowKit
set_option maxRecDepth 100000 in
set_option maxHeartbeats 8000000 in
theorem Tryd.rs_32 (r : Int) (h0 : 0 ≤ r) (hm : r ≤ 1114111) (h : Sg.Plus32 r) (w : World) :
    Calls Tryd.prog 48 #[.int .i64 r] w fun e w' => e = .returned (.int .i64 (r + 32)) ∧ w' = w := by
  unfold Sg.Plus32 at h
  by_cases p : r % 2 = 0
  · have p1 : (r % 2 == 0) = true := beq_iff_eq.2 p
    rcases h with h | h | h | h | h | h
    · go_enter Tryd.func48, Tryd.ntmps48
      go_wp2_with (go_at_call 59; first | (refine (Tryd.rwithin_yes _ _ _ _ (by omega)).mono ?_; rintro e w' ⟨rfl, rfl⟩) | (refine (Tryd.rwithin_no _ _ _ _ (by omega)).mono ?_; rintro e w' ⟨rfl, rfl⟩))
      go_ret
      exact ⟨rfl, rfl⟩
    · have n5 : (r != 215) = true := bne_iff_ne.2 h.2
      go_enter Tryd.func48, Tryd.ntmps48
      go_wp2_with (go_at_call 59; first | (refine (Tryd.rwithin_yes _ _ _ _ (by omega)).mono ?_; rintro e w' ⟨rfl, rfl⟩) | (refine (Tryd.rwithin_no _ _ _ _ (by omega)).mono ?_; rintro e w' ⟨rfl, rfl⟩))
      go_ret
      exact ⟨rfl, rfl⟩
    · go_enter Tryd.func48, Tryd.ntmps48
      go_wp2_with (go_at_call 59; first | (refine (Tryd.rwithin_yes _ _ _ _ (by omega)).mono ?_; rintro e w' ⟨rfl, rfl⟩) | (refine (Tryd.rwithin_no _ _ _ _ (by omega)).mono ?_; rintro e w' ⟨rfl, rfl⟩))
      go_ret
      exact ⟨rfl, rfl⟩
    · go_enter Tryd.func48, Tryd.ntmps48
      go_wp2_with (go_at_call 59; first | (refine (Tryd.rwithin_yes _ _ _ _ (by omega)).mono ?_; rintro e w' ⟨rfl, rfl⟩) | (refine (Tryd.rwithin_no _ _ _ _ (by omega)).mono ?_; rintro e w' ⟨rfl, rfl⟩))
      go_ret
      exact ⟨rfl, rfl⟩
    · go_enter Tryd.func48, Tryd.ntmps48
      go_wp2_with (go_at_call 59; first | (refine (Tryd.rwithin_yes _ _ _ _ (by omega)).mono ?_; rintro e w' ⟨rfl, rfl⟩) | (refine (Tryd.rwithin_no _ _ _ _ (by omega)).mono ?_; rintro e w' ⟨rfl, rfl⟩))
      go_ret
      exact ⟨rfl, rfl⟩
    · go_enter Tryd.func48, Tryd.ntmps48
      go_wp2_with (go_at_call 59; first | (refine (Tryd.rwithin_yes _ _ _ _ (by omega)).mono ?_; rintro e w' ⟨rfl, rfl⟩) | (refine (Tryd.rwithin_no _ _ _ _ (by omega)).mono ?_; rintro e w' ⟨rfl, rfl⟩))
      go_ret
      exact ⟨rfl, rfl⟩
  · have p1 : (r % 2 == 0) = false := beq_eq_false_iff_ne.2 p
    rcases h with h | h | h | h | h | h
    · go_enter Tryd.func48, Tryd.ntmps48
      go_wp2_with (go_at_call 59; first | (refine (Tryd.rwithin_yes _ _ _ _ (by omega)).mono ?_; rintro e w' ⟨rfl, rfl⟩) | (refine (Tryd.rwithin_no _ _ _ _ (by omega)).mono ?_; rintro e w' ⟨rfl, rfl⟩))
      go_ret
      exact ⟨rfl, rfl⟩
    · have n5 : (r != 215) = true := bne_iff_ne.2 h.2
      go_enter Tryd.func48, Tryd.ntmps48
      go_wp2_with (go_at_call 59; first | (refine (Tryd.rwithin_yes _ _ _ _ (by omega)).mono ?_; rintro e w' ⟨rfl, rfl⟩) | (refine (Tryd.rwithin_no _ _ _ _ (by omega)).mono ?_; rintro e w' ⟨rfl, rfl⟩))
      go_ret
      exact ⟨rfl, rfl⟩
    · go_enter Tryd.func48, Tryd.ntmps48
      go_wp2_with (go_at_call 59; first | (refine (Tryd.rwithin_yes _ _ _ _ (by omega)).mono ?_; rintro e w' ⟨rfl, rfl⟩) | (refine (Tryd.rwithin_no _ _ _ _ (by omega)).mono ?_; rintro e w' ⟨rfl, rfl⟩))
      go_ret
      exact ⟨rfl, rfl⟩
    · go_enter Tryd.func48, Tryd.ntmps48
      go_wp2_with (go_at_call 59; first | (refine (Tryd.rwithin_yes _ _ _ _ (by omega)).mono ?_; rintro e w' ⟨rfl, rfl⟩) | (refine (Tryd.rwithin_no _ _ _ _ (by omega)).mono ?_; rintro e w' ⟨rfl, rfl⟩))
      go_ret
      exact ⟨rfl, rfl⟩
    · go_enter Tryd.func48, Tryd.ntmps48
      go_wp2_with (go_at_call 59; first | (refine (Tryd.rwithin_yes _ _ _ _ (by omega)).mono ?_; rintro e w' ⟨rfl, rfl⟩) | (refine (Tryd.rwithin_no _ _ _ _ (by omega)).mono ?_; rintro e w' ⟨rfl, rfl⟩))
      go_ret
      exact ⟨rfl, rfl⟩
    · go_enter Tryd.func48, Tryd.ntmps48
      go_wp2_with (go_at_call 59; first | (refine (Tryd.rwithin_yes _ _ _ _ (by omega)).mono ?_; rintro e w' ⟨rfl, rfl⟩) | (refine (Tryd.rwithin_no _ _ _ _ (by omega)).mono ?_; rintro e w' ⟨rfl, rfl⟩))
      go_ret
      exact ⟨rfl, rfl⟩
set_option maxRecDepth 100000 in
set_option maxHeartbeats 8000000 in
theorem Tryd.rs_even (r : Int) (h0 : 0 ≤ r) (hm : r ≤ 1114111) (h : Sg.Even1 r) (w : World) :
    Calls Tryd.prog 48 #[.int .i64 r] w fun e w' => e = .returned (.int .i64 (r + 1)) ∧ w' = w := by
  obtain ⟨p, h⟩ := h
  have p1 : (r % 2 == 0) = true := beq_iff_eq.2 p
  rcases h with h | h | h
  · go_enter Tryd.func48, Tryd.ntmps48
    go_wp2_with (go_at_call 59; first | (refine (Tryd.rwithin_yes _ _ _ _ (by omega)).mono ?_; rintro e w' ⟨rfl, rfl⟩) | (refine (Tryd.rwithin_no _ _ _ _ (by omega)).mono ?_; rintro e w' ⟨rfl, rfl⟩))
    go_ret
    exact ⟨rfl, rfl⟩
  · go_enter Tryd.func48, Tryd.ntmps48
    go_wp2_with (go_at_call 59; first | (refine (Tryd.rwithin_yes _ _ _ _ (by omega)).mono ?_; rintro e w' ⟨rfl, rfl⟩) | (refine (Tryd.rwithin_no _ _ _ _ (by omega)).mono ?_; rintro e w' ⟨rfl, rfl⟩))
    go_ret
    exact ⟨rfl, rfl⟩
  · go_enter Tryd.func48, Tryd.ntmps48
    go_wp2_with (go_at_call 59; first | (refine (Tryd.rwithin_yes _ _ _ _ (by omega)).mono ?_; rintro e w' ⟨rfl, rfl⟩) | (refine (Tryd.rwithin_no _ _ _ _ (by omega)).mono ?_; rintro e w' ⟨rfl, rfl⟩))
    go_ret
    exact ⟨rfl, rfl⟩
set_option maxRecDepth 100000 in
set_option maxHeartbeats 8000000 in
theorem Tryd.rs_odd (r : Int) (h0 : 0 ≤ r) (hm : r ≤ 1114111) (h : Sg.Odd1 r) (w : World) :
    Calls Tryd.prog 48 #[.int .i64 r] w fun e w' => e = .returned (.int .i64 (r + 1)) ∧ w' = w := by
  obtain ⟨p, h⟩ := h
  have p1 : (r % 2 == 0) = false := beq_eq_false_iff_ne.2 p
  rcases h with h | h
  · go_enter Tryd.func48, Tryd.ntmps48
    go_wp2_with (go_at_call 59; first | (refine (Tryd.rwithin_yes _ _ _ _ (by omega)).mono ?_; rintro e w' ⟨rfl, rfl⟩) | (refine (Tryd.rwithin_no _ _ _ _ (by omega)).mono ?_; rintro e w' ⟨rfl, rfl⟩))
    go_ret
    exact ⟨rfl, rfl⟩
  · go_enter Tryd.func48, Tryd.ntmps48
    go_wp2_with (go_at_call 59; first | (refine (Tryd.rwithin_yes _ _ _ _ (by omega)).mono ?_; rintro e w' ⟨rfl, rfl⟩) | (refine (Tryd.rwithin_no _ _ _ _ (by omega)).mono ?_; rintro e w' ⟨rfl, rfl⟩))
    go_ret
    exact ⟨rfl, rfl⟩
set_option maxRecDepth 100000 in
set_option maxHeartbeats 8000000 in
theorem Tryd.rs_37 (r : Int) (h0 : 0 ≤ r) (hm : r ≤ 1114111) (h : 904 ≤ r ∧ r ≤ 906) (w : World) :
    Calls Tryd.prog 48 #[.int .i64 r] w fun e w' => e = .returned (.int .i64 (r + 37)) ∧ w' = w := by
  by_cases p : r % 2 = 0
  · have p1 : (r % 2 == 0) = true := beq_iff_eq.2 p
    go_enter Tryd.func48, Tryd.ntmps48
    go_wp2_with (go_at_call 59; first | (refine (Tryd.rwithin_yes _ _ _ _ (by omega)).mono ?_; rintro e w' ⟨rfl, rfl⟩) | (refine (Tryd.rwithin_no _ _ _ _ (by omega)).mono ?_; rintro e w' ⟨rfl, rfl⟩))
    go_ret
    exact ⟨rfl, rfl⟩
  · have p1 : (r % 2 == 0) = false := beq_eq_false_iff_ne.2 p
    go_enter Tryd.func48, Tryd.ntmps48
    go_wp2_with (go_at_call 59; first | (refine (Tryd.rwithin_yes _ _ _ _ (by omega)).mono ?_; rintro e w' ⟨rfl, rfl⟩) | (refine (Tryd.rwithin_no _ _ _ _ (by omega)).mono ?_; rintro e w' ⟨rfl, rfl⟩))
    go_ret
    exact ⟨rfl, rfl⟩
set_option maxRecDepth 100000 in
set_option maxHeartbeats 8000000 in
theorem Tryd.rs_63 (r : Int) (h0 : 0 ≤ r) (hm : r ≤ 1114111) (h : 910 ≤ r ∧ r ≤ 911) (w : World) :
    Calls Tryd.prog 48 #[.int .i64 r] w fun e w' => e = .returned (.int .i64 (r + 63)) ∧ w' = w := by
  by_cases p : r % 2 = 0
  · have p1 : (r % 2 == 0) = true := beq_iff_eq.2 p
    go_enter Tryd.func48, Tryd.ntmps48
    go_wp2_with (go_at_call 59; first | (refine (Tryd.rwithin_yes _ _ _ _ (by omega)).mono ?_; rintro e w' ⟨rfl, rfl⟩) | (refine (Tryd.rwithin_no _ _ _ _ (by omega)).mono ?_; rintro e w' ⟨rfl, rfl⟩))
    go_ret
    exact ⟨rfl, rfl⟩
  · have p1 : (r % 2 == 0) = false := beq_eq_false_iff_ne.2 p
    go_enter Tryd.func48, Tryd.ntmps48
    go_wp2_with (go_at_call 59; first | (refine (Tryd.rwithin_yes _ _ _ _ (by omega)).mono ?_; rintro e w' ⟨rfl, rfl⟩) | (refine (Tryd.rwithin_no _ _ _ _ (by omega)).mono ?_; rintro e w' ⟨rfl, rfl⟩))
    go_ret
    exact ⟨rfl, rfl⟩
set_option maxRecDepth 100000 in
set_option maxHeartbeats 8000000 in
theorem Tryd.rs_80 (r : Int) (h0 : 0 ≤ r) (hm : r ≤ 1114111) (h : 1024 ≤ r ∧ r ≤ 1039) (w : World) :
    Calls Tryd.prog 48 #[.int .i64 r] w fun e w' => e = .returned (.int .i64 (r + 80)) ∧ w' = w := by
  by_cases p : r % 2 = 0
  · have p1 : (r % 2 == 0) = true := beq_iff_eq.2 p
    go_enter Tryd.func48, Tryd.ntmps48
    go_wp2_with (go_at_call 59; first | (refine (Tryd.rwithin_yes _ _ _ _ (by omega)).mono ?_; rintro e w' ⟨rfl, rfl⟩) | (refine (Tryd.rwithin_no _ _ _ _ (by omega)).mono ?_; rintro e w' ⟨rfl, rfl⟩))
    go_ret
    exact ⟨rfl, rfl⟩
  · have p1 : (r % 2 == 0) = false := beq_eq_false_iff_ne.2 p
    go_enter Tryd.func48, Tryd.ntmps48
    go_wp2_with (go_at_call 59; first | (refine (Tryd.rwithin_yes _ _ _ _ (by omega)).mono ?_; rintro e w' ⟨rfl, rfl⟩) | (refine (Tryd.rwithin_no _ _ _ _ (by omega)).mono ?_; rintro e w' ⟨rfl, rfl⟩))
    go_ret
    exact ⟨rfl, rfl⟩
set_option maxRecDepth 100000 in
set_option maxHeartbeats 8000000 in
theorem Tryd.rs_376 (w : World) :
    Calls Tryd.prog 48 #[.int .i64 376] w fun e w' => e = .returned (.int .i64 255) ∧ w' = w := by
  go_enter Tryd.func48, Tryd.ntmps48
  go_wp2_with (go_at_call 59; first | (refine (Tryd.rwithin_yes _ _ _ _ (by omega)).mono ?_; rintro e w' ⟨rfl, rfl⟩) | (refine (Tryd.rwithin_no _ _ _ _ (by omega)).mono ?_; rintro e w' ⟨rfl, rfl⟩))
  go_ret
  exact ⟨rfl, rfl⟩
set_option maxRecDepth 100000 in
set_option maxHeartbeats 8000000 in
theorem Tryd.rs_902 (w : World) :
    Calls Tryd.prog 48 #[.int .i64 902] w fun e w' => e = .returned (.int .i64 940) ∧ w' = w := by
  go_enter Tryd.func48, Tryd.ntmps48
  go_wp2_with (go_at_call 59; first | (refine (Tryd.rwithin_yes _ _ _ _ (by omega)).mono ?_; rintro e w' ⟨rfl, rfl⟩) | (refine (Tryd.rwithin_no _ _ _ _ (by omega)).mono ?_; rintro e w' ⟨rfl, rfl⟩))
  go_ret
  exact ⟨rfl, rfl⟩
set_option maxRecDepth 100000 in
set_option maxHeartbeats 8000000 in
theorem Tryd.rs_908 (w : World) :
    Calls Tryd.prog 48 #[.int .i64 908] w fun e w' => e = .returned (.int .i64 972) ∧ w' = w := by
  go_enter Tryd.func48, Tryd.ntmps48
  go_wp2_with (go_at_call 59; first | (refine (Tryd.rwithin_yes _ _ _ _ (by omega)).mono ?_; rintro e w' ⟨rfl, rfl⟩) | (refine (Tryd.rwithin_no _ _ _ _ (by omega)).mono ?_; rintro e w' ⟨rfl, rfl⟩))
  go_ret
  exact ⟨rfl, rfl⟩
set_option maxRecDepth 100000 in
set_option maxHeartbeats 8000000 in
theorem Tryd.rs_962 (w : World) :
    Calls Tryd.prog 48 #[.int .i64 962] w fun e w' => e = .returned (.int .i64 963) ∧ w' = w := by
  go_enter Tryd.func48, Tryd.ntmps48
  go_wp2_with (go_at_call 59; first | (refine (Tryd.rwithin_yes _ _ _ _ (by omega)).mono ?_; rintro e w' ⟨rfl, rfl⟩) | (refine (Tryd.rwithin_no _ _ _ _ (by omega)).mono ?_; rintro e w' ⟨rfl, rfl⟩))
  go_ret
  exact ⟨rfl, rfl⟩
set_option maxRecDepth 100000 in
set_option maxHeartbeats 8000000 in
theorem Tryd.rs_else0 (r : Int) (h0 : 0 ≤ r) (hm : r ≤ 1114111) (a : ¬ Sg.Plus32 r) (b : ¬ Sg.Even1 r) (c : ¬ Sg.Odd1 r) (d : ¬ (904 ≤ r ∧ r ≤ 906)) (e : ¬ (910 ≤ r ∧ r ≤ 911)) (f : ¬ (1024 ≤ r ∧ r ≤ 1039)) (g1 : r ≠ 376) (g2 : r ≠ 902) (g3 : r ≠ 908) (g4 : r ≠ 962) (p : r % 2 = 0) (w : World) :
    Calls Tryd.prog 48 #[.int .i64 r] w fun e w' => e = .returned (.int .i64 (r)) ∧ w' = w := by
  unfold Sg.Plus32 at a
  have m1 : ¬ (65 ≤ r ∧ r ≤ 90) := by omega
  have m3 : ¬ (913 ≤ r ∧ r ≤ 929) := by omega
  have m4 : ¬ (931 ≤ r ∧ r ≤ 939) := by omega
  have m5 : ¬ (1040 ≤ r ∧ r ≤ 1071) := by omega
  have m6 : ¬ (65313 ≤ r ∧ r ≤ 65338) := by omega
  unfold Sg.Even1 at b
  unfold Sg.Odd1 at c
  have q1 : (r == 376) = false := beq_eq_false_iff_ne.2 g1
  have q2 : (r == 902) = false := beq_eq_false_iff_ne.2 g2
  have q3 : (r == 908) = false := beq_eq_false_iff_ne.2 g3
  have q4 : (r == 962) = false := beq_eq_false_iff_ne.2 g4
  have p1 : (r % 2 == 0) = true := beq_iff_eq.2 p
  have k1 : ¬ (256 ≤ r ∧ r ≤ 303) := by omega
  have k2 : ¬ (306 ≤ r ∧ r ≤ 311) := by omega
  have k3 : ¬ (330 ≤ r ∧ r ≤ 375) := by omega
  by_cases u : 192 ≤ r ∧ r ≤ 222
  · have n5 : (r != 215) = false := by rw [bne_eq_false_iff_eq]; omega
    clear a b c g1 g2 g3 g4 p
    go_enter Tryd.func48, Tryd.ntmps48
    go_wp2_with (go_at_call 59; first | (refine (Tryd.rwithin_yes _ _ _ _ (by omega)).mono ?_; rintro e w' ⟨rfl, rfl⟩) | (refine (Tryd.rwithin_no _ _ _ _ (by omega)).mono ?_; rintro e w' ⟨rfl, rfl⟩))
    go_ret
    exact ⟨rfl, rfl⟩
  · clear a b c g1 g2 g3 g4 p
    go_enter Tryd.func48, Tryd.ntmps48
    go_wp2_with (go_at_call 59; first | (refine (Tryd.rwithin_yes _ _ _ _ (by omega)).mono ?_; rintro e w' ⟨rfl, rfl⟩) | (refine (Tryd.rwithin_no _ _ _ _ (by omega)).mono ?_; rintro e w' ⟨rfl, rfl⟩))
    go_ret
    exact ⟨rfl, rfl⟩
set_option maxRecDepth 100000 in
set_option maxHeartbeats 8000000 in
theorem Tryd.rs_else1 (r : Int) (h0 : 0 ≤ r) (hm : r ≤ 1114111) (a : ¬ Sg.Plus32 r) (b : ¬ Sg.Even1 r) (c : ¬ Sg.Odd1 r) (d : ¬ (904 ≤ r ∧ r ≤ 906)) (e : ¬ (910 ≤ r ∧ r ≤ 911)) (f : ¬ (1024 ≤ r ∧ r ≤ 1039)) (g1 : r ≠ 376) (g2 : r ≠ 902) (g3 : r ≠ 908) (g4 : r ≠ 962) (p : ¬ r % 2 = 0) (w : World) :
    Calls Tryd.prog 48 #[.int .i64 r] w fun e w' => e = .returned (.int .i64 (r)) ∧ w' = w := by
  unfold Sg.Plus32 at a
  have m1 : ¬ (65 ≤ r ∧ r ≤ 90) := by omega
  have m3 : ¬ (913 ≤ r ∧ r ≤ 929) := by omega
  have m4 : ¬ (931 ≤ r ∧ r ≤ 939) := by omega
  have m5 : ¬ (1040 ≤ r ∧ r ≤ 1071) := by omega
  have m6 : ¬ (65313 ≤ r ∧ r ≤ 65338) := by omega
  unfold Sg.Even1 at b
  unfold Sg.Odd1 at c
  have q1 : (r == 376) = false := beq_eq_false_iff_ne.2 g1
  have q2 : (r == 902) = false := beq_eq_false_iff_ne.2 g2
  have q3 : (r == 908) = false := beq_eq_false_iff_ne.2 g3
  have q4 : (r == 962) = false := beq_eq_false_iff_ne.2 g4
  have p1 : (r % 2 == 0) = false := beq_eq_false_iff_ne.2 p
  have k1 : ¬ (313 ≤ r ∧ r ≤ 328) := by omega
  have k2 : ¬ (377 ≤ r ∧ r ≤ 382) := by omega
  by_cases u : 192 ≤ r ∧ r ≤ 222
  · have n5 : (r != 215) = false := by rw [bne_eq_false_iff_eq]; omega
    clear a b c g1 g2 g3 g4 p
    go_enter Tryd.func48, Tryd.ntmps48
    go_wp2_with (go_at_call 59; first | (refine (Tryd.rwithin_yes _ _ _ _ (by omega)).mono ?_; rintro e w' ⟨rfl, rfl⟩) | (refine (Tryd.rwithin_no _ _ _ _ (by omega)).mono ?_; rintro e w' ⟨rfl, rfl⟩))
    go_ret
    exact ⟨rfl, rfl⟩
  · clear a b c g1 g2 g3 g4 p
    go_enter Tryd.func48, Tryd.ntmps48
    go_wp2_with (go_at_call 59; first | (refine (Tryd.rwithin_yes _ _ _ _ (by omega)).mono ?_; rintro e w' ⟨rfl, rfl⟩) | (refine (Tryd.rwithin_no _ _ _ _ (by omega)).mono ?_; rintro e w' ⟨rfl, rfl⟩))
    go_ret
    exact ⟨rfl, rfl⟩
theorem Tryd.refSmall_any (r : Int) (h0 : 0 ≤ r) (hm : r ≤ 1114111) (w : World) :
    Calls Tryd.prog 48 #[.int .i64 r] w fun e w' => e = .returned (.int .i64 (Sg.small r)) ∧ w' = w := by
  by_cases a : Sg.Plus32 r
  · rw [Sg.small_32 r a]; exact Tryd.rs_32 r h0 hm a w
  by_cases b : Sg.Even1 r
  · rw [Sg.small_even r b]; exact Tryd.rs_even r h0 hm b w
  by_cases c : Sg.Odd1 r
  · rw [Sg.small_odd r c]; exact Tryd.rs_odd r h0 hm c w
  by_cases d : 904 ≤ r ∧ r ≤ 906
  · rw [Sg.small_37 r d]; exact Tryd.rs_37 r h0 hm d w
  by_cases e : 910 ≤ r ∧ r ≤ 911
  · rw [Sg.small_63 r e]; exact Tryd.rs_63 r h0 hm e w
  by_cases f : 1024 ≤ r ∧ r ≤ 1039
  · rw [Sg.small_80 r f]; exact Tryd.rs_80 r h0 hm f w
  by_cases g1 : r = 376
  · subst g1; rw [Sg.small_376]; exact Tryd.rs_376 w
  by_cases g2 : r = 902
  · subst g2; rw [Sg.small_902]; exact Tryd.rs_902 w
  by_cases g3 : r = 908
  · subst g3; rw [Sg.small_908]; exact Tryd.rs_908 w
  by_cases g4 : r = 962
  · subst g4; rw [Sg.small_962]; exact Tryd.rs_962 w
  rw [Sg.small_else r a b c d e f g1 g2 g3 g4]
  by_cases p : r % 2 = 0
  · exact Tryd.rs_else0 r h0 hm a b c d e f g1 g2 g3 g4 p w
  · exact Tryd.rs_else1 r h0 hm a b c d e f g1 g2 g3 g4 p w
end Go.Proofs
