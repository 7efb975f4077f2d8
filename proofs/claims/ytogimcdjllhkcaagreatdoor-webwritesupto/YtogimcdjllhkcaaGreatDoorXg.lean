/-
  Small functions on bytes.
-/
import Derived.Test.YtogimcdjllhkcaaGreatDoorXe
namespace Go.Wb
theorem toNat_lt (c : UInt8) : c.toNat < 256 := c.toNat_lt
theorem sm_nat (c : UInt8) : (sm c).toNat = if great c then c.toNat + 32 else c.toNat := by
  unfold sm
  by_cases h : great c = true
  · rw [if_pos h, if_pos h, UInt8.toNat_ofNat']
    simp only [great, Bool.and_eq_true, decide_eq_true_eq] at h
    omega
  · rw [if_neg h, if_neg h]
end Go.Wb
namespace Go.Proofs
open Go.RowKit Go.Wi Go.Wb
set_option maxHeartbeats 1000000 in
theorem Tryz.isDigit_any (c : UInt8) (w : World) : Calls Tryz.prog 58 #[.int .u8 c.toNat] w fun e w' => e = .returned (.bool (dig c)) ∧ w' = w := by
  have hd : dig c = (decide (48 ≤ c.toNat) && decide (c.toNat ≤ 57)) := rfl
  rw [hd]
  generalize c.toNat = n at *
  clear hd
  by_cases h : 48 ≤ n
  · have q : (48 : Int) ≤ (n : Int) := by omega
    go_enter Tryz.func58, Tryz.ntmps58
    go_wp2
    go_ret
    exact ⟨by rw [decide_eq_true h]; simp; omega, rfl⟩
  · have q : ¬ (48 : Int) ≤ (n : Int) := by omega
    go_enter Tryz.func58, Tryz.ntmps58
    go_wp2
    go_ret
    exact ⟨rfl, rfl⟩
set_option maxHeartbeats 1000000 in
theorem Tryz.isGreat_any (c : UInt8) (w : World) : Calls Tryz.prog 59 #[.int .u8 c.toNat] w fun e w' => e = .returned (.bool (great c)) ∧ w' = w := by
  have hd : great c = (decide (65 ≤ c.toNat) && decide (c.toNat ≤ 90)) := rfl
  rw [hd]
  generalize c.toNat = n at *
  clear hd
  by_cases h : 65 ≤ n
  · have q : (65 : Int) ≤ (n : Int) := by omega
    go_enter Tryz.func59, Tryz.ntmps59
    go_wp2
    go_ret
    exact ⟨by rw [decide_eq_true h]; simp; omega, rfl⟩
  · have q : ¬ (65 : Int) ≤ (n : Int) := by omega
    go_enter Tryz.func59, Tryz.ntmps59
    go_wp2
    go_ret
    exact ⟨rfl, rfl⟩
set_option maxHeartbeats 1000000 in
theorem Tryz.isTargetByte_any (c : UInt8) (w : World) : Calls Tryz.prog 45 #[.int .u8 c.toNat] w fun e w' => e = .returned (.bool (tgt c)) ∧ w' = w := by
  have hd : tgt c = (decide (33 ≤ c.toNat) && decide (c.toNat ≤ 126)) := rfl
  rw [hd]
  generalize c.toNat = n at *
  clear hd
  by_cases h : 33 ≤ n
  · have q : (33 : Int) ≤ (n : Int) := by omega
    go_enter Tryz.func45, Tryz.ntmps45
    go_wp2
    go_ret
    exact ⟨by rw [decide_eq_true h]; simp; omega, rfl⟩
  · have q : ¬ (33 : Int) ≤ (n : Int) := by omega
    go_enter Tryz.func45, Tryz.ntmps45
    go_wp2
    go_ret
    exact ⟨rfl, rfl⟩
set_option maxHeartbeats 1000000 in
theorem Tryz.isBlank_any (c : UInt8) (w : World) : Calls Tryz.prog 122 #[.int .u8 c.toNat] w fun e w' => e = .returned (.bool (Wb.blank c)) ∧ w' = w := by
  have hd : Wb.blank c = (c.toNat == 32 || c.toNat == 9) := rfl
  rw [hd]
  generalize c.toNat = n at *
  clear hd
  by_cases h : n = 32
  · have q : ((n : Int) == 32) = true := by simp; omega
    go_enter Tryz.func122, Tryz.ntmps122
    go_wp2
    go_ret
    exact ⟨by rw [h]; rfl, rfl⟩
  · have q : ((n : Int) == 32) = false := by simp; omega
    go_enter Tryz.func122, Tryz.ntmps122
    go_wp2
    go_ret
    refine ⟨?_, rfl⟩
    have h1 : (n == 32) = false := by simpa using h
    rw [h1, Bool.false_or]
    by_cases h2 : n = 9
    · rw [h2]; rfl
    · have e1 : (n == 9) = false := by simpa using h2
      have e2 : ((n : Int) == 9) = false := by simp; omega
      rw [e1, e2]
      rfl
set_option maxHeartbeats 1000000 in
theorem Tryz.isTextByte_any (c : UInt8) (w : World) : Calls Tryz.prog 63 #[.int .u8 c.toNat] w fun e w' => e = .returned (.bool (txt c)) ∧ w' = w := by
  have hd : txt c = (c.toNat == 9 || (decide (32 ≤ c.toNat) && decide (c.toNat ≤ 126)) || decide (128 ≤ c.toNat)) := rfl
  rw [hd]
  generalize c.toNat = n at *
  clear hd
  by_cases h : n = 9
  · have q : ((n : Int) == 9) = true := by simp; omega
    go_enter Tryz.func63, Tryz.ntmps63
    go_wp2
    go_ret
    exact ⟨by rw [h]; rfl, rfl⟩
  · have q : ((n : Int) == 9) = false := by simp; omega
    have h1 : (n == 9) = false := by simpa using h
    rw [h1, Bool.false_or]
    by_cases h2 : 32 ≤ n
    · have q2 : (32 : Int) ≤ (n : Int) := by omega
      rw [decide_eq_true h2, Bool.true_and]
      by_cases h3 : n ≤ 126
      · have q3 : (n : Int) ≤ 126 := by omega
        rw [decide_eq_true h3, Bool.true_or]
        go_enter Tryz.func63, Tryz.ntmps63
        go_wp2
        go_ret
        exact ⟨rfl, rfl⟩
      · have q3 : ¬ (n : Int) ≤ 126 := by omega
        rw [decide_eq_false h3, Bool.false_or]
        go_enter Tryz.func63, Tryz.ntmps63
        go_wp2
        go_ret
        exact ⟨by simp; omega, rfl⟩
    · have q2 : ¬ (32 : Int) ≤ (n : Int) := by omega
      rw [decide_eq_false h2, Bool.false_and, Bool.false_or]
      go_enter Tryz.func63, Tryz.ntmps63
      go_wp2
      go_ret
      exact ⟨by simp; omega, rfl⟩
set_option maxHeartbeats 1000000 in
theorem Tryz.small_any (c : UInt8) (w : World) : Calls Tryz.prog 62 #[.int .u8 c.toNat] w fun e w' => e = .returned (.int .u8 (sm c).toNat) ∧ w' = w := by
  have h1 := Tryz.isGreat_any c w
  have hs := sm_nat c
  have hc := toNat_lt c
  rw [hs]
  by_cases h : great c = true
  · rw [if_pos h]
    have hg : c.toNat ≤ 90 := by simp only [great, Bool.and_eq_true, decide_eq_true_eq] at h; omega
    rw [h] at h1
    clear hs h
    generalize c.toNat = n at *
    go_enter Tryz.func62, Tryz.ntmps62
    go_wp2_with (first | (go_at_call 59; refine h1.mono ?_; clear h1; rintro e w1 ⟨rfl, rfl⟩) | fail)
    go_ret
    exact ⟨by congr 2, rfl⟩
  · rw [if_neg h]
    rw [Bool.eq_false_iff.2 h] at h1
    clear hs h
    generalize c.toNat = n at *
    go_enter Tryz.func62, Tryz.ntmps62
    go_wp2_with (first | (go_at_call 59; refine h1.mono ?_; clear h1; rintro e w1 ⟨rfl, rfl⟩) | fail)
    go_ret
    exact ⟨rfl, rfl⟩
set_option maxHeartbeats 1000000 in
theorem Tryz.isStatus_any (n : Int) (w : World) : Calls Tryz.prog 31 #[.int .i64 n] w fun e w' => e = .returned (.bool (decide (200 ≤ n) && decide (n ≤ 599))) ∧ w' = w := by
  by_cases h : 200 ≤ n
  · rw [decide_eq_true h]
    go_enter Tryz.func31, Tryz.ntmps31
    go_wp2
    go_ret
    exact ⟨by simp, rfl⟩
  · rw [decide_eq_false h]
    go_enter Tryz.func31, Tryz.ntmps31
    go_wp2
    go_ret
    exact ⟨rfl, rfl⟩
set_option maxHeartbeats 1000000 in
theorem Tryz.hasNoBody_any (n : Int) (w : World) : Calls Tryz.prog 30 #[.int .i64 n] w fun e w' => e = .returned (.bool (n == 204 || n == 304)) ∧ w' = w := by
  by_cases h : n = 204
  · have q : (n == 204) = true := by simpa using h
    rw [q]
    go_enter Tryz.func30, Tryz.ntmps30
    go_wp2
    go_ret
    exact ⟨rfl, rfl⟩
  · have q : (n == 204) = false := by simpa using h
    rw [q]
    go_enter Tryz.func30, Tryz.ntmps30
    go_wp2
    go_ret
    exact ⟨rfl, rfl⟩
/-- A hex digit as a number. -/
def Wb.hexI (c : UInt8) : Int := match hexd c with | some d => (d : Int) | none => -1
set_option maxHeartbeats 1000000 in
theorem Tryz.hexDigit_any (c : UInt8) (w : World) : Calls Tryz.prog 131 #[.int .u8 c.toNat] w fun e w' => e = .returned (.int .i64 (Wb.hexI c)) ∧ w' = w := by
  have h1 := Tryz.isDigit_any c w
  have h2 := Tryz.small_any c w
  have hc := toNat_lt c
  have hsl := toNat_lt (sm c)
  by_cases h : dig c = true
  · have hg : 48 ≤ c.toNat ∧ c.toNat ≤ 57 := by simpa only [dig, Bool.and_eq_true, decide_eq_true_eq] using h
    have e1 : Wb.hexI c = (c.toNat : Int) - 48 := by unfold Wb.hexI hexd; rw [if_pos h]; show ((c.toNat - 48 : Nat) : Int) = _; omega
    rw [e1]
    rw [h] at h1
    obtain ⟨hg1, hg2⟩ := hg
    clear h e1 h2
    generalize c.toNat = n at *
    go_enter Tryz.func131, Tryz.ntmps131
    go_wp2_with (first | (go_at_call 58; refine h1.mono ?_; clear h1; rintro e w1 ⟨rfl, rfl⟩) | fail)
    go_ret
    exact ⟨by congr 2, rfl⟩
  · rw [Bool.eq_false_iff.2 h] at h1
    by_cases h3 : 97 ≤ (sm c).toNat
    · by_cases h4 : (sm c).toNat ≤ 102
      · have e1 : Wb.hexI c = ((sm c).toNat : Int) - 87 := by unfold Wb.hexI hexd; rw [if_neg h, if_pos ⟨h3, h4⟩]; show (((sm c).toNat - 87 : Nat) : Int) = _; omega
        rw [e1]
        have q3 : (97 : Int) ≤ ((sm c).toNat : Int) := by omega
        have q4 : ((sm c).toNat : Int) ≤ 102 := by omega
        clear h e1
        generalize (sm c).toNat = s at *
        generalize c.toNat = n at *
        go_enter Tryz.func131, Tryz.ntmps131
        go_wp2_with (first | (go_at_call 58; refine h1.mono ?_; clear h1; rintro e w1 ⟨rfl, rfl⟩) | (go_at_call 62; refine h2.mono ?_; rintro e w1 ⟨rfl, rfl⟩) | fail)
        go_ret
        exact ⟨by rw [show (s : Int) - 87 = (s : Int) - 97 + 10 by omega]; rfl, rfl⟩
      · have e1 : Wb.hexI c = -1 := by unfold Wb.hexI hexd; rw [if_neg h, if_neg (fun e => h4 e.2)]
        rw [e1]
        have q3 : (97 : Int) ≤ ((sm c).toNat : Int) := by omega
        have q4 : ¬ ((sm c).toNat : Int) ≤ 102 := by omega
        clear h e1
        generalize (sm c).toNat = s at *
        generalize c.toNat = n at *
        go_enter Tryz.func131, Tryz.ntmps131
        go_wp2_with (first | (go_at_call 58; refine h1.mono ?_; clear h1; rintro e w1 ⟨rfl, rfl⟩) | (go_at_call 62; refine h2.mono ?_; rintro e w1 ⟨rfl, rfl⟩) | fail)
        go_ret
        exact ⟨rfl, rfl⟩
    · have e1 : Wb.hexI c = -1 := by unfold Wb.hexI hexd; rw [if_neg h, if_neg (fun e => h3 e.1)]
      rw [e1]
      have q3 : ¬ (97 : Int) ≤ ((sm c).toNat : Int) := by omega
      clear h e1
      generalize (sm c).toNat = s at *
      generalize c.toNat = n at *
      go_enter Tryz.func131, Tryz.ntmps131
      go_wp2_with (first | (go_at_call 58; refine h1.mono ?_; clear h1; rintro e w1 ⟨rfl, rfl⟩) | (go_at_call 62; refine h2.mono ?_; rintro e w1 ⟨rfl, rfl⟩) | fail)
      go_ret
      exact ⟨rfl, rfl⟩
end Go.Proofs
