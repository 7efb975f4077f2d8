/-
  The program's Decode.
-/
import Derived.Test.YtkfmfdnfjeofiaaDoorIr
namespace Go.Proofs
open Go.RowKit Go.Wi Go.Dg
def Dg.numC (c : Nat) : Int := if 65 ≤ c ∧ c ≤ 90 then (c : Int) - 65 else if 97 ≤ c ∧ c ≤ 122 then (c : Int) - 71 else if 48 ≤ c ∧ c ≤ 57 then (c : Int) + 4 else if c = 45 then 62 else if c = 95 then 63 else -1
theorem Dg.numC_all : ((List.range 256).all fun n => decide (val (UInt8.ofNat n) = Dg.numC n)) = true := by kernel_rfl
theorem Dg.val_numC (c : UInt8) : val c = Dg.numC c.toNat := by
  have h := List.all_eq_true.1 Dg.numC_all c.toNat (List.mem_range.2 c.toNat_lt)
  have := of_decide_eq_true h
  rwa [UInt8.ofNat_toNat] at this
set_option maxRecDepth 20000 in
set_option maxHeartbeats 1000000 in
theorem Tryd.number_any (c : UInt8) (w : World) :
    Calls Tryd.prog 30 #[.int .u8 (c.toNat : Nat)] w fun e w' => e = .returned (.tuple #[.int .u64 ((val c).toNat : Nat), .bool (decide (0 ≤ val c))]) ∧ w' = w := by
  have hc := c.toNat_lt
  rw [Dg.val_numC c]
  generalize c.toNat = n at *
  go_enter Tryd.func30, Tryd.ntmps30
  have hiv : (0 ≤ n ∧ n ≤ 44) ∨ (45 ≤ n ∧ n ≤ 45) ∨ (46 ≤ n ∧ n ≤ 47) ∨ (48 ≤ n ∧ n ≤ 57) ∨ (58 ≤ n ∧ n ≤ 64) ∨ (65 ≤ n ∧ n ≤ 90) ∨ (91 ≤ n ∧ n ≤ 94) ∨ (95 ≤ n ∧ n ≤ 95) ∨ (96 ≤ n ∧ n ≤ 96) ∨ (97 ≤ n ∧ n ≤ 122) ∨ (123 ≤ n ∧ n ≤ 255) := by omega
  rcases hiv with hiv | hiv | hiv | hiv | hiv | hiv | hiv | hiv | hiv | hiv | hiv
  · have e : Dg.numC n = -1 := by unfold Dg.numC; (repeat' split) <;> omega
    have q1 : ¬ (65 : Int) ≤ (n : Int) := by omega
    have q2 : ¬ (97 : Int) ≤ (n : Int) := by omega
    have q3 : ¬ (48 : Int) ≤ (n : Int) := by omega
    have q4 : (n : Int) ≤ 90 := by omega
    have q5 : (n : Int) ≤ 122 := by omega
    have q6 : (n : Int) ≤ 57 := by omega
    have q7 : ((n : Int) == 45) = false := by simp; omega
    have q8 : ((n : Int) == 95) = false := by simp; omega
    clear hiv
    go_wp2
    refine bodyPost_ret (results_tmp2 rfl _ _ _) rfl ⟨?_, rfl⟩

    try rw [e]
    simp
    try omega
  · have e : Dg.numC n = 62 := by unfold Dg.numC; (repeat' split) <;> omega
    have q1 : ¬ (65 : Int) ≤ (n : Int) := by omega
    have q2 : ¬ (97 : Int) ≤ (n : Int) := by omega
    have q3 : ¬ (48 : Int) ≤ (n : Int) := by omega
    have q4 : (n : Int) ≤ 90 := by omega
    have q5 : (n : Int) ≤ 122 := by omega
    have q6 : (n : Int) ≤ 57 := by omega
    have q7 : ((n : Int) == 45) = true := by simp; omega
    have q8 : ((n : Int) == 95) = false := by simp; omega
    clear hiv
    go_wp2
    refine bodyPost_ret (results_tmp2 rfl _ _ _) rfl ⟨?_, rfl⟩

    try rw [e]
    simp
    try omega
  · have e : Dg.numC n = -1 := by unfold Dg.numC; (repeat' split) <;> omega
    have q1 : ¬ (65 : Int) ≤ (n : Int) := by omega
    have q2 : ¬ (97 : Int) ≤ (n : Int) := by omega
    have q3 : ¬ (48 : Int) ≤ (n : Int) := by omega
    have q4 : (n : Int) ≤ 90 := by omega
    have q5 : (n : Int) ≤ 122 := by omega
    have q6 : (n : Int) ≤ 57 := by omega
    have q7 : ((n : Int) == 45) = false := by simp; omega
    have q8 : ((n : Int) == 95) = false := by simp; omega
    clear hiv
    go_wp2
    refine bodyPost_ret (results_tmp2 rfl _ _ _) rfl ⟨?_, rfl⟩

    try rw [e]
    simp
    try omega
  · have e : Dg.numC n = (n : Int) + 4 := by unfold Dg.numC; (repeat' split) <;> omega
    have q1 : ¬ (65 : Int) ≤ (n : Int) := by omega
    have q2 : ¬ (97 : Int) ≤ (n : Int) := by omega
    have q3 : (48 : Int) ≤ (n : Int) := by omega
    have q4 : (n : Int) ≤ 90 := by omega
    have q5 : (n : Int) ≤ 122 := by omega
    have q6 : (n : Int) ≤ 57 := by omega
    have q7 : ((n : Int) == 45) = false := by simp; omega
    have q8 : ((n : Int) == 95) = false := by simp; omega
    clear hiv
    go_wp2
    refine bodyPost_ret (results_tmp2 rfl _ _ _) rfl ⟨?_, rfl⟩

    try rw [e]
    simp
    try omega
  · have e : Dg.numC n = -1 := by unfold Dg.numC; (repeat' split) <;> omega
    have q1 : ¬ (65 : Int) ≤ (n : Int) := by omega
    have q2 : ¬ (97 : Int) ≤ (n : Int) := by omega
    have q3 : (48 : Int) ≤ (n : Int) := by omega
    have q4 : (n : Int) ≤ 90 := by omega
    have q5 : (n : Int) ≤ 122 := by omega
    have q6 : ¬ (n : Int) ≤ 57 := by omega
    have q7 : ((n : Int) == 45) = false := by simp; omega
    have q8 : ((n : Int) == 95) = false := by simp; omega
    clear hiv
    go_wp2
    refine bodyPost_ret (results_tmp2 rfl _ _ _) rfl ⟨?_, rfl⟩

    try rw [e]
    simp
    try omega
  · have e : Dg.numC n = (n : Int) - 65 := by unfold Dg.numC; (repeat' split) <;> omega
    have q1 : (65 : Int) ≤ (n : Int) := by omega
    have q2 : ¬ (97 : Int) ≤ (n : Int) := by omega
    have q3 : (48 : Int) ≤ (n : Int) := by omega
    have q4 : (n : Int) ≤ 90 := by omega
    have q5 : (n : Int) ≤ 122 := by omega
    have q6 : ¬ (n : Int) ≤ 57 := by omega
    have q7 : ((n : Int) == 45) = false := by simp; omega
    have q8 : ((n : Int) == 95) = false := by simp; omega
    clear hiv
    go_wp2
    refine bodyPost_ret (results_tmp2 rfl _ _ _) rfl ⟨?_, rfl⟩

    try rw [e]
    simp
    try omega
  · have e : Dg.numC n = -1 := by unfold Dg.numC; (repeat' split) <;> omega
    have q1 : (65 : Int) ≤ (n : Int) := by omega
    have q2 : ¬ (97 : Int) ≤ (n : Int) := by omega
    have q3 : (48 : Int) ≤ (n : Int) := by omega
    have q4 : ¬ (n : Int) ≤ 90 := by omega
    have q5 : (n : Int) ≤ 122 := by omega
    have q6 : ¬ (n : Int) ≤ 57 := by omega
    have q7 : ((n : Int) == 45) = false := by simp; omega
    have q8 : ((n : Int) == 95) = false := by simp; omega
    clear hiv
    go_wp2
    refine bodyPost_ret (results_tmp2 rfl _ _ _) rfl ⟨?_, rfl⟩

    try rw [e]
    simp
    try omega
  · have e : Dg.numC n = 63 := by unfold Dg.numC; (repeat' split) <;> omega
    have q1 : (65 : Int) ≤ (n : Int) := by omega
    have q2 : ¬ (97 : Int) ≤ (n : Int) := by omega
    have q3 : (48 : Int) ≤ (n : Int) := by omega
    have q4 : ¬ (n : Int) ≤ 90 := by omega
    have q5 : (n : Int) ≤ 122 := by omega
    have q6 : ¬ (n : Int) ≤ 57 := by omega
    have q7 : ((n : Int) == 45) = false := by simp; omega
    have q8 : ((n : Int) == 95) = true := by simp; omega
    clear hiv
    go_wp2
    refine bodyPost_ret (results_tmp2 rfl _ _ _) rfl ⟨?_, rfl⟩

    try rw [e]
    simp
    try omega
  · have e : Dg.numC n = -1 := by unfold Dg.numC; (repeat' split) <;> omega
    have q1 : (65 : Int) ≤ (n : Int) := by omega
    have q2 : ¬ (97 : Int) ≤ (n : Int) := by omega
    have q3 : (48 : Int) ≤ (n : Int) := by omega
    have q4 : ¬ (n : Int) ≤ 90 := by omega
    have q5 : (n : Int) ≤ 122 := by omega
    have q6 : ¬ (n : Int) ≤ 57 := by omega
    have q7 : ((n : Int) == 45) = false := by simp; omega
    have q8 : ((n : Int) == 95) = false := by simp; omega
    clear hiv
    go_wp2
    refine bodyPost_ret (results_tmp2 rfl _ _ _) rfl ⟨?_, rfl⟩

    try rw [e]
    simp
    try omega
  · have e : Dg.numC n = (n : Int) - 71 := by unfold Dg.numC; (repeat' split) <;> omega
    have q1 : (65 : Int) ≤ (n : Int) := by omega
    have q2 : (97 : Int) ≤ (n : Int) := by omega
    have q3 : (48 : Int) ≤ (n : Int) := by omega
    have q4 : ¬ (n : Int) ≤ 90 := by omega
    have q5 : (n : Int) ≤ 122 := by omega
    have q6 : ¬ (n : Int) ≤ 57 := by omega
    have q7 : ((n : Int) == 45) = false := by simp; omega
    have q8 : ((n : Int) == 95) = false := by simp; omega
    clear hiv
    go_wp2
    refine bodyPost_ret (results_tmp2 rfl _ _ _) rfl ⟨?_, rfl⟩

    try rw [e]
    simp
    try omega
  · have e : Dg.numC n = -1 := by unfold Dg.numC; (repeat' split) <;> omega
    have q1 : (65 : Int) ≤ (n : Int) := by omega
    have q2 : (97 : Int) ≤ (n : Int) := by omega
    have q3 : (48 : Int) ≤ (n : Int) := by omega
    have q4 : ¬ (n : Int) ≤ 90 := by omega
    have q5 : ¬ (n : Int) ≤ 122 := by omega
    have q6 : ¬ (n : Int) ≤ 57 := by omega
    have q7 : ((n : Int) == 45) = false := by simp; omega
    have q8 : ((n : Int) == 95) = false := by simp; omega
    clear hiv
    go_wp2
    refine bodyPost_ret (results_tmp2 rfl _ _ _) rfl ⟨?_, rfl⟩

    try rw [e]
    simp
    try omega
end Go.Proofs
