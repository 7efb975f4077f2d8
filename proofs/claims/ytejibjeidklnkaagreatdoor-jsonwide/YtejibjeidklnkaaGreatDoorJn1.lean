/-
  'isNumber', way by way.
-/
import Derived.Test.YtejibjeidklnkaaGreatDoorJr9
namespace Go.Proofs
open Go.RowKit Go.Jv
set_option maxHeartbeats 4000000 in
theorem Tryz.num_nn (s a r : ByteArray) (_hs : s.size ≤ 5000) (w : World) (hae : a.toList.isEmpty = false) (hD0 : ∀ w, Calls Tryz.prog 53 #[.string (trim s)] w fun e w' => e = .returned (.tuple #[.string a, .string r]) ∧ Below w.heap.size w w') (_hrs : r.size ≤ 5000) (h0 : 0 < a.size) (x0 : UInt8) (hg : a[0]'h0 = x0) (hc : (a.size : Int) ≤ 1 ∨ ((1 < (a.size : Int)) ∧ ((x0.toNat : Int) == 48) = false)) (n46 : pre r 46 = false) (m101 : pre r 101 = false) (m69 : pre r 69 = false) (HM : Hid (isNumber s = num2 nought r)) :
    Calls Tryz.prog 38 #[.string s] w fun e w' => e = .returned (.bool (isNumber s)) ∧ Below w.heap.size w w' := by
  have hTP : ∀ w, Calls Tryz.prog 54 #[.string s, .string ⟨#[45]⟩] w fun e w' => e = .returned (.string (trim s)) ∧ w' = w := fun w => Tryz.strings_TrimPrefix s ⟨#[45]⟩ w
  have hHP : ∀ x c w, Calls Tryz.prog 55 #[.string x, .string ⟨#[c]⟩] w fun e w' => e = .returned (.bool (pre x c)) ∧ w' = w := fun x c w => Tryz.strings_HasPrefix x ⟨#[c]⟩ w
  have HX : Hid (isNumber s = num3 nought nought r) := HM.out.trans (by unfold num2; exact if_neg (by rw [m101, m69]; simp))
  clear HM
  rcases hc with hc | ⟨hc, hc2⟩
  · skip
    have hp' : ¬ nought = emp := by decide
    have hq' : ¬ nought = emp := by decide
    by_cases hr : r.toList.isEmpty = true
    · have Hr' : Hid (r = emp) := (Jv.emp_iff r).2 hr
      go_enter Tryz.func38, Tryz.ntmps38
      go_wp2_with (first | (go_at_call 54; refine (hTP _).mono ?_; rintro e9 w9 ⟨rfl, rfl⟩) | (go_at_call 55; refine (hHP _ _ _).mono ?_; rintro e9 w9 ⟨rfl, rfl⟩) | (go_at_call 53; first | (refine (hD0 _).mono ?_; clear hD0; rintro e9 w1 ⟨rfl, hb1⟩) | (refine (hD1 _).mono ?_; clear hD1; rintro e9 w2 ⟨rfl, hb2⟩; replace hb1 := hb1.trans (hb2.mono hb1.size)) | (refine (hD2 _).mono ?_; clear hD2; rintro e9 w3 ⟨rfl, hb3⟩; replace hb1 := hb1.trans (hb3.mono hb1.size))) | fail)
      go_ret
      exact ⟨Jv.ret_bool (by rw [HX.out]; unfold num3; symm; simp [hp', Hr'.out]), hb1⟩
    · have hr' : ¬ r = emp := fun h => hr ((Jv.emp_iff r).1 h)
      have hr1 : r.toList.isEmpty = false := by simpa using hr
      clear hr
      go_enter Tryz.func38, Tryz.ntmps38
      go_wp2_with (first | (go_at_call 54; refine (hTP _).mono ?_; rintro e9 w9 ⟨rfl, rfl⟩) | (go_at_call 55; refine (hHP _ _ _).mono ?_; rintro e9 w9 ⟨rfl, rfl⟩) | (go_at_call 53; first | (refine (hD0 _).mono ?_; clear hD0; rintro e9 w1 ⟨rfl, hb1⟩) | (refine (hD1 _).mono ?_; clear hD1; rintro e9 w2 ⟨rfl, hb2⟩; replace hb1 := hb1.trans (hb2.mono hb1.size)) | (refine (hD2 _).mono ?_; clear hD2; rintro e9 w3 ⟨rfl, hb3⟩; replace hb1 := hb1.trans (hb3.mono hb1.size))) | fail)
      go_ret
      exact ⟨Jv.ret_bool (by rw [HX.out]; unfold num3; symm; simp [hp', hr']), hb1⟩
  · skip
    have hp' : ¬ nought = emp := by decide
    have hq' : ¬ nought = emp := by decide
    by_cases hr : r.toList.isEmpty = true
    · have Hr' : Hid (r = emp) := (Jv.emp_iff r).2 hr
      go_enter Tryz.func38, Tryz.ntmps38
      go_wp2_with (first | (go_at_call 54; refine (hTP _).mono ?_; rintro e9 w9 ⟨rfl, rfl⟩) | (go_at_call 55; refine (hHP _ _ _).mono ?_; rintro e9 w9 ⟨rfl, rfl⟩) | (go_at_call 53; first | (refine (hD0 _).mono ?_; clear hD0; rintro e9 w1 ⟨rfl, hb1⟩) | (refine (hD1 _).mono ?_; clear hD1; rintro e9 w2 ⟨rfl, hb2⟩; replace hb1 := hb1.trans (hb2.mono hb1.size)) | (refine (hD2 _).mono ?_; clear hD2; rintro e9 w3 ⟨rfl, hb3⟩; replace hb1 := hb1.trans (hb3.mono hb1.size))) | fail)
      go_ret
      exact ⟨Jv.ret_bool (by rw [HX.out]; unfold num3; symm; simp [hp', Hr'.out]), hb1⟩
    · have hr' : ¬ r = emp := fun h => hr ((Jv.emp_iff r).1 h)
      have hr1 : r.toList.isEmpty = false := by simpa using hr
      clear hr
      go_enter Tryz.func38, Tryz.ntmps38
      go_wp2_with (first | (go_at_call 54; refine (hTP _).mono ?_; rintro e9 w9 ⟨rfl, rfl⟩) | (go_at_call 55; refine (hHP _ _ _).mono ?_; rintro e9 w9 ⟨rfl, rfl⟩) | (go_at_call 53; first | (refine (hD0 _).mono ?_; clear hD0; rintro e9 w1 ⟨rfl, hb1⟩) | (refine (hD1 _).mono ?_; clear hD1; rintro e9 w2 ⟨rfl, hb2⟩; replace hb1 := hb1.trans (hb2.mono hb1.size)) | (refine (hD2 _).mono ?_; clear hD2; rintro e9 w3 ⟨rfl, hb3⟩; replace hb1 := hb1.trans (hb3.mono hb1.size))) | fail)
      go_ret
      exact ⟨Jv.ret_bool (by rw [HX.out]; unfold num3; symm; simp [hp', hr']), hb1⟩
set_option maxHeartbeats 4000000 in
theorem Tryz.num_ne43 (s a r : ByteArray) (_hs : s.size ≤ 5000) (w : World) (hae : a.toList.isEmpty = false) (hD0 : ∀ w, Calls Tryz.prog 53 #[.string (trim s)] w fun e w' => e = .returned (.tuple #[.string a, .string r]) ∧ Below w.heap.size w w') (hrs : r.size ≤ 5000) (h0 : 0 < a.size) (x0 : UInt8) (hg : a[0]'h0 = x0) (hc : (a.size : Int) ≤ 1 ∨ ((1 < (a.size : Int)) ∧ ((x0.toNat : Int) == 48) = false)) (n46 : pre r 46 = false) (e101 : pre r 101 = true) (s43 : pre (r.extract 1 r.size) 43 = true) (HM : Hid (isNumber s = num2 nought r)) :
    Calls Tryz.prog 38 #[.string s] w fun e w' => e = .returned (.bool (isNumber s)) ∧ Below w.heap.size w w' := by
  have hTP : ∀ w, Calls Tryz.prog 54 #[.string s, .string ⟨#[45]⟩] w fun e w' => e = .returned (.string (trim s)) ∧ w' = w := fun w => Tryz.strings_TrimPrefix s ⟨#[45]⟩ w
  have hHP : ∀ x c w, Calls Tryz.prog 55 #[.string x, .string ⟨#[c]⟩] w fun e w' => e = .returned (.bool (pre x c)) ∧ w' = w := fun x c w => Tryz.strings_HasPrefix x ⟨#[c]⟩ w
  have hz1 := Jv.pre_size e101
  have ht1 : (r.extract 1 r.size).size ≤ r.size := by rw [ByteArray.size_extract]; omega
  have hz2 := Jv.pre_size s43
  have ht2 : ((r.extract 1 r.size).extract 1 (r.extract 1 r.size).size).size ≤ (r.extract 1 r.size).size := by rw [ByteArray.size_extract]; omega
  have hD2 := Tryz.digits_any ((r.extract 1 r.size).extract 1 (r.extract 1 r.size).size) (by omega)
  have HX : Hid (isNumber s = num3 nought (dg1 ((r.extract 1 r.size).extract 1 (r.extract 1 r.size).size)) (dg2 ((r.extract 1 r.size).extract 1 (r.extract 1 r.size).size))) := HM.out.trans (by unfold num2; rw [if_pos (Or.inl e101)]; exact if_pos (Or.inl s43))
  generalize dg1 ((r.extract 1 r.size).extract 1 (r.extract 1 r.size).size) = power at *
  generalize dg2 ((r.extract 1 r.size).extract 1 (r.extract 1 r.size).size) = rest at *
  have e0sz : (r.extract 1 r.size).size = r.size - 1 := by rw [ByteArray.size_extract]; omega
  rw [e0sz] at hD2 hz2
  have hz3 : (2 : Int) ≤ r.size := by omega
  clear HM ht1 ht2 hz2 e0sz
  rcases hc with hc | ⟨hc, hc2⟩
  · skip
    have hp' : ¬ nought = emp := by decide
    by_cases hq : power.toList.isEmpty = true
    · have Hq' : Hid (power = emp) := (Jv.emp_iff power).2 hq
      go_enter Tryz.func38, Tryz.ntmps38
      go_wp2_with (first | (go_at_call 54; refine (hTP _).mono ?_; rintro e9 w9 ⟨rfl, rfl⟩) | (go_at_call 55; refine (hHP _ _ _).mono ?_; rintro e9 w9 ⟨rfl, rfl⟩) | (go_at_call 53; first | (refine (hD0 _).mono ?_; clear hD0; rintro e9 w1 ⟨rfl, hb1⟩) | (refine (hD1 _).mono ?_; clear hD1; rintro e9 w2 ⟨rfl, hb2⟩; replace hb1 := hb1.trans (hb2.mono hb1.size)) | (refine (hD2 _).mono ?_; clear hD2; rintro e9 w3 ⟨rfl, hb3⟩; replace hb1 := hb1.trans (hb3.mono hb1.size))) | fail)
      go_ret
      exact ⟨Jv.ret_bool (by rw [HX.out]; unfold num3; symm; simp [hp', Hq'.out]), hb1⟩
    · have hq' : ¬ power = emp := fun h => hq ((Jv.emp_iff power).1 h)
      have hq1 : power.toList.isEmpty = false := by simpa using hq
      clear hq
      by_cases hr : rest.toList.isEmpty = true
      · have Hr' : Hid (rest = emp) := (Jv.emp_iff rest).2 hr
        go_enter Tryz.func38, Tryz.ntmps38
        go_wp2_with (first | (go_at_call 54; refine (hTP _).mono ?_; rintro e9 w9 ⟨rfl, rfl⟩) | (go_at_call 55; refine (hHP _ _ _).mono ?_; rintro e9 w9 ⟨rfl, rfl⟩) | (go_at_call 53; first | (refine (hD0 _).mono ?_; clear hD0; rintro e9 w1 ⟨rfl, hb1⟩) | (refine (hD1 _).mono ?_; clear hD1; rintro e9 w2 ⟨rfl, hb2⟩; replace hb1 := hb1.trans (hb2.mono hb1.size)) | (refine (hD2 _).mono ?_; clear hD2; rintro e9 w3 ⟨rfl, hb3⟩; replace hb1 := hb1.trans (hb3.mono hb1.size))) | fail)
        go_ret
        exact ⟨Jv.ret_bool (by rw [HX.out]; unfold num3; symm; simp [hp', hq', Hr'.out]), hb1⟩
      · have hr' : ¬ rest = emp := fun h => hr ((Jv.emp_iff rest).1 h)
        have hr1 : rest.toList.isEmpty = false := by simpa using hr
        clear hr
        go_enter Tryz.func38, Tryz.ntmps38
        go_wp2_with (first | (go_at_call 54; refine (hTP _).mono ?_; rintro e9 w9 ⟨rfl, rfl⟩) | (go_at_call 55; refine (hHP _ _ _).mono ?_; rintro e9 w9 ⟨rfl, rfl⟩) | (go_at_call 53; first | (refine (hD0 _).mono ?_; clear hD0; rintro e9 w1 ⟨rfl, hb1⟩) | (refine (hD1 _).mono ?_; clear hD1; rintro e9 w2 ⟨rfl, hb2⟩; replace hb1 := hb1.trans (hb2.mono hb1.size)) | (refine (hD2 _).mono ?_; clear hD2; rintro e9 w3 ⟨rfl, hb3⟩; replace hb1 := hb1.trans (hb3.mono hb1.size))) | fail)
        go_ret
        exact ⟨Jv.ret_bool (by rw [HX.out]; unfold num3; symm; simp [hp', hq', hr']), hb1⟩
  · skip
    have hp' : ¬ nought = emp := by decide
    by_cases hq : power.toList.isEmpty = true
    · have Hq' : Hid (power = emp) := (Jv.emp_iff power).2 hq
      go_enter Tryz.func38, Tryz.ntmps38
      go_wp2_with (first | (go_at_call 54; refine (hTP _).mono ?_; rintro e9 w9 ⟨rfl, rfl⟩) | (go_at_call 55; refine (hHP _ _ _).mono ?_; rintro e9 w9 ⟨rfl, rfl⟩) | (go_at_call 53; first | (refine (hD0 _).mono ?_; clear hD0; rintro e9 w1 ⟨rfl, hb1⟩) | (refine (hD1 _).mono ?_; clear hD1; rintro e9 w2 ⟨rfl, hb2⟩; replace hb1 := hb1.trans (hb2.mono hb1.size)) | (refine (hD2 _).mono ?_; clear hD2; rintro e9 w3 ⟨rfl, hb3⟩; replace hb1 := hb1.trans (hb3.mono hb1.size))) | fail)
      go_ret
      exact ⟨Jv.ret_bool (by rw [HX.out]; unfold num3; symm; simp [hp', Hq'.out]), hb1⟩
    · have hq' : ¬ power = emp := fun h => hq ((Jv.emp_iff power).1 h)
      have hq1 : power.toList.isEmpty = false := by simpa using hq
      clear hq
      by_cases hr : rest.toList.isEmpty = true
      · have Hr' : Hid (rest = emp) := (Jv.emp_iff rest).2 hr
        go_enter Tryz.func38, Tryz.ntmps38
        go_wp2_with (first | (go_at_call 54; refine (hTP _).mono ?_; rintro e9 w9 ⟨rfl, rfl⟩) | (go_at_call 55; refine (hHP _ _ _).mono ?_; rintro e9 w9 ⟨rfl, rfl⟩) | (go_at_call 53; first | (refine (hD0 _).mono ?_; clear hD0; rintro e9 w1 ⟨rfl, hb1⟩) | (refine (hD1 _).mono ?_; clear hD1; rintro e9 w2 ⟨rfl, hb2⟩; replace hb1 := hb1.trans (hb2.mono hb1.size)) | (refine (hD2 _).mono ?_; clear hD2; rintro e9 w3 ⟨rfl, hb3⟩; replace hb1 := hb1.trans (hb3.mono hb1.size))) | fail)
        go_ret
        exact ⟨Jv.ret_bool (by rw [HX.out]; unfold num3; symm; simp [hp', hq', Hr'.out]), hb1⟩
      · have hr' : ¬ rest = emp := fun h => hr ((Jv.emp_iff rest).1 h)
        have hr1 : rest.toList.isEmpty = false := by simpa using hr
        clear hr
        go_enter Tryz.func38, Tryz.ntmps38
        go_wp2_with (first | (go_at_call 54; refine (hTP _).mono ?_; rintro e9 w9 ⟨rfl, rfl⟩) | (go_at_call 55; refine (hHP _ _ _).mono ?_; rintro e9 w9 ⟨rfl, rfl⟩) | (go_at_call 53; first | (refine (hD0 _).mono ?_; clear hD0; rintro e9 w1 ⟨rfl, hb1⟩) | (refine (hD1 _).mono ?_; clear hD1; rintro e9 w2 ⟨rfl, hb2⟩; replace hb1 := hb1.trans (hb2.mono hb1.size)) | (refine (hD2 _).mono ?_; clear hD2; rintro e9 w3 ⟨rfl, hb3⟩; replace hb1 := hb1.trans (hb3.mono hb1.size))) | fail)
        go_ret
        exact ⟨Jv.ret_bool (by rw [HX.out]; unfold num3; symm; simp [hp', hq', hr']), hb1⟩
set_option maxHeartbeats 4000000 in
theorem Tryz.num_ne45 (s a r : ByteArray) (_hs : s.size ≤ 5000) (w : World) (hae : a.toList.isEmpty = false) (hD0 : ∀ w, Calls Tryz.prog 53 #[.string (trim s)] w fun e w' => e = .returned (.tuple #[.string a, .string r]) ∧ Below w.heap.size w w') (hrs : r.size ≤ 5000) (h0 : 0 < a.size) (x0 : UInt8) (hg : a[0]'h0 = x0) (hc : (a.size : Int) ≤ 1 ∨ ((1 < (a.size : Int)) ∧ ((x0.toNat : Int) == 48) = false)) (n46 : pre r 46 = false) (e101 : pre r 101 = true) (n43 : pre (r.extract 1 r.size) 43 = false) (s45 : pre (r.extract 1 r.size) 45 = true) (HM : Hid (isNumber s = num2 nought r)) :
    Calls Tryz.prog 38 #[.string s] w fun e w' => e = .returned (.bool (isNumber s)) ∧ Below w.heap.size w w' := by
  have hTP : ∀ w, Calls Tryz.prog 54 #[.string s, .string ⟨#[45]⟩] w fun e w' => e = .returned (.string (trim s)) ∧ w' = w := fun w => Tryz.strings_TrimPrefix s ⟨#[45]⟩ w
  have hHP : ∀ x c w, Calls Tryz.prog 55 #[.string x, .string ⟨#[c]⟩] w fun e w' => e = .returned (.bool (pre x c)) ∧ w' = w := fun x c w => Tryz.strings_HasPrefix x ⟨#[c]⟩ w
  have hz1 := Jv.pre_size e101
  have ht1 : (r.extract 1 r.size).size ≤ r.size := by rw [ByteArray.size_extract]; omega
  have hz2 := Jv.pre_size s45
  have ht2 : ((r.extract 1 r.size).extract 1 (r.extract 1 r.size).size).size ≤ (r.extract 1 r.size).size := by rw [ByteArray.size_extract]; omega
  have hD2 := Tryz.digits_any ((r.extract 1 r.size).extract 1 (r.extract 1 r.size).size) (by omega)
  have HX : Hid (isNumber s = num3 nought (dg1 ((r.extract 1 r.size).extract 1 (r.extract 1 r.size).size)) (dg2 ((r.extract 1 r.size).extract 1 (r.extract 1 r.size).size))) := HM.out.trans (by unfold num2; rw [if_pos (Or.inl e101)]; exact if_pos (Or.inr s45))
  generalize dg1 ((r.extract 1 r.size).extract 1 (r.extract 1 r.size).size) = power at *
  generalize dg2 ((r.extract 1 r.size).extract 1 (r.extract 1 r.size).size) = rest at *
  have e0sz : (r.extract 1 r.size).size = r.size - 1 := by rw [ByteArray.size_extract]; omega
  rw [e0sz] at hD2 hz2
  have hz3 : (2 : Int) ≤ r.size := by omega
  clear HM ht1 ht2 hz2 e0sz
  rcases hc with hc | ⟨hc, hc2⟩
  · skip
    have hp' : ¬ nought = emp := by decide
    by_cases hq : power.toList.isEmpty = true
    · have Hq' : Hid (power = emp) := (Jv.emp_iff power).2 hq
      go_enter Tryz.func38, Tryz.ntmps38
      go_wp2_with (first | (go_at_call 54; refine (hTP _).mono ?_; rintro e9 w9 ⟨rfl, rfl⟩) | (go_at_call 55; refine (hHP _ _ _).mono ?_; rintro e9 w9 ⟨rfl, rfl⟩) | (go_at_call 53; first | (refine (hD0 _).mono ?_; clear hD0; rintro e9 w1 ⟨rfl, hb1⟩) | (refine (hD1 _).mono ?_; clear hD1; rintro e9 w2 ⟨rfl, hb2⟩; replace hb1 := hb1.trans (hb2.mono hb1.size)) | (refine (hD2 _).mono ?_; clear hD2; rintro e9 w3 ⟨rfl, hb3⟩; replace hb1 := hb1.trans (hb3.mono hb1.size))) | fail)
      go_ret
      exact ⟨Jv.ret_bool (by rw [HX.out]; unfold num3; symm; simp [hp', Hq'.out]), hb1⟩
    · have hq' : ¬ power = emp := fun h => hq ((Jv.emp_iff power).1 h)
      have hq1 : power.toList.isEmpty = false := by simpa using hq
      clear hq
      by_cases hr : rest.toList.isEmpty = true
      · have Hr' : Hid (rest = emp) := (Jv.emp_iff rest).2 hr
        go_enter Tryz.func38, Tryz.ntmps38
        go_wp2_with (first | (go_at_call 54; refine (hTP _).mono ?_; rintro e9 w9 ⟨rfl, rfl⟩) | (go_at_call 55; refine (hHP _ _ _).mono ?_; rintro e9 w9 ⟨rfl, rfl⟩) | (go_at_call 53; first | (refine (hD0 _).mono ?_; clear hD0; rintro e9 w1 ⟨rfl, hb1⟩) | (refine (hD1 _).mono ?_; clear hD1; rintro e9 w2 ⟨rfl, hb2⟩; replace hb1 := hb1.trans (hb2.mono hb1.size)) | (refine (hD2 _).mono ?_; clear hD2; rintro e9 w3 ⟨rfl, hb3⟩; replace hb1 := hb1.trans (hb3.mono hb1.size))) | fail)
        go_ret
        exact ⟨Jv.ret_bool (by rw [HX.out]; unfold num3; symm; simp [hp', hq', Hr'.out]), hb1⟩
      · have hr' : ¬ rest = emp := fun h => hr ((Jv.emp_iff rest).1 h)
        have hr1 : rest.toList.isEmpty = false := by simpa using hr
        clear hr
        go_enter Tryz.func38, Tryz.ntmps38
        go_wp2_with (first | (go_at_call 54; refine (hTP _).mono ?_; rintro e9 w9 ⟨rfl, rfl⟩) | (go_at_call 55; refine (hHP _ _ _).mono ?_; rintro e9 w9 ⟨rfl, rfl⟩) | (go_at_call 53; first | (refine (hD0 _).mono ?_; clear hD0; rintro e9 w1 ⟨rfl, hb1⟩) | (refine (hD1 _).mono ?_; clear hD1; rintro e9 w2 ⟨rfl, hb2⟩; replace hb1 := hb1.trans (hb2.mono hb1.size)) | (refine (hD2 _).mono ?_; clear hD2; rintro e9 w3 ⟨rfl, hb3⟩; replace hb1 := hb1.trans (hb3.mono hb1.size))) | fail)
        go_ret
        exact ⟨Jv.ret_bool (by rw [HX.out]; unfold num3; symm; simp [hp', hq', hr']), hb1⟩
  · skip
    have hp' : ¬ nought = emp := by decide
    by_cases hq : power.toList.isEmpty = true
    · have Hq' : Hid (power = emp) := (Jv.emp_iff power).2 hq
      go_enter Tryz.func38, Tryz.ntmps38
      go_wp2_with (first | (go_at_call 54; refine (hTP _).mono ?_; rintro e9 w9 ⟨rfl, rfl⟩) | (go_at_call 55; refine (hHP _ _ _).mono ?_; rintro e9 w9 ⟨rfl, rfl⟩) | (go_at_call 53; first | (refine (hD0 _).mono ?_; clear hD0; rintro e9 w1 ⟨rfl, hb1⟩) | (refine (hD1 _).mono ?_; clear hD1; rintro e9 w2 ⟨rfl, hb2⟩; replace hb1 := hb1.trans (hb2.mono hb1.size)) | (refine (hD2 _).mono ?_; clear hD2; rintro e9 w3 ⟨rfl, hb3⟩; replace hb1 := hb1.trans (hb3.mono hb1.size))) | fail)
      go_ret
      exact ⟨Jv.ret_bool (by rw [HX.out]; unfold num3; symm; simp [hp', Hq'.out]), hb1⟩
    · have hq' : ¬ power = emp := fun h => hq ((Jv.emp_iff power).1 h)
      have hq1 : power.toList.isEmpty = false := by simpa using hq
      clear hq
      by_cases hr : rest.toList.isEmpty = true
      · have Hr' : Hid (rest = emp) := (Jv.emp_iff rest).2 hr
        go_enter Tryz.func38, Tryz.ntmps38
        go_wp2_with (first | (go_at_call 54; refine (hTP _).mono ?_; rintro e9 w9 ⟨rfl, rfl⟩) | (go_at_call 55; refine (hHP _ _ _).mono ?_; rintro e9 w9 ⟨rfl, rfl⟩) | (go_at_call 53; first | (refine (hD0 _).mono ?_; clear hD0; rintro e9 w1 ⟨rfl, hb1⟩) | (refine (hD1 _).mono ?_; clear hD1; rintro e9 w2 ⟨rfl, hb2⟩; replace hb1 := hb1.trans (hb2.mono hb1.size)) | (refine (hD2 _).mono ?_; clear hD2; rintro e9 w3 ⟨rfl, hb3⟩; replace hb1 := hb1.trans (hb3.mono hb1.size))) | fail)
        go_ret
        exact ⟨Jv.ret_bool (by rw [HX.out]; unfold num3; symm; simp [hp', hq', Hr'.out]), hb1⟩
      · have hr' : ¬ rest = emp := fun h => hr ((Jv.emp_iff rest).1 h)
        have hr1 : rest.toList.isEmpty = false := by simpa using hr
        clear hr
        go_enter Tryz.func38, Tryz.ntmps38
        go_wp2_with (first | (go_at_call 54; refine (hTP _).mono ?_; rintro e9 w9 ⟨rfl, rfl⟩) | (go_at_call 55; refine (hHP _ _ _).mono ?_; rintro e9 w9 ⟨rfl, rfl⟩) | (go_at_call 53; first | (refine (hD0 _).mono ?_; clear hD0; rintro e9 w1 ⟨rfl, hb1⟩) | (refine (hD1 _).mono ?_; clear hD1; rintro e9 w2 ⟨rfl, hb2⟩; replace hb1 := hb1.trans (hb2.mono hb1.size)) | (refine (hD2 _).mono ?_; clear hD2; rintro e9 w3 ⟨rfl, hb3⟩; replace hb1 := hb1.trans (hb3.mono hb1.size))) | fail)
        go_ret
        exact ⟨Jv.ret_bool (by rw [HX.out]; unfold num3; symm; simp [hp', hq', hr']), hb1⟩
set_option maxHeartbeats 4000000 in
theorem Tryz.num_ne (s a r : ByteArray) (_hs : s.size ≤ 5000) (w : World) (hae : a.toList.isEmpty = false) (hD0 : ∀ w, Calls Tryz.prog 53 #[.string (trim s)] w fun e w' => e = .returned (.tuple #[.string a, .string r]) ∧ Below w.heap.size w w') (hrs : r.size ≤ 5000) (h0 : 0 < a.size) (x0 : UInt8) (hg : a[0]'h0 = x0) (hc : (a.size : Int) ≤ 1 ∨ ((1 < (a.size : Int)) ∧ ((x0.toNat : Int) == 48) = false)) (n46 : pre r 46 = false) (e101 : pre r 101 = true) (n43 : pre (r.extract 1 r.size) 43 = false) (n45 : pre (r.extract 1 r.size) 45 = false) (HM : Hid (isNumber s = num2 nought r)) :
    Calls Tryz.prog 38 #[.string s] w fun e w' => e = .returned (.bool (isNumber s)) ∧ Below w.heap.size w w' := by
  have hTP : ∀ w, Calls Tryz.prog 54 #[.string s, .string ⟨#[45]⟩] w fun e w' => e = .returned (.string (trim s)) ∧ w' = w := fun w => Tryz.strings_TrimPrefix s ⟨#[45]⟩ w
  have hHP : ∀ x c w, Calls Tryz.prog 55 #[.string x, .string ⟨#[c]⟩] w fun e w' => e = .returned (.bool (pre x c)) ∧ w' = w := fun x c w => Tryz.strings_HasPrefix x ⟨#[c]⟩ w
  have hz1 := Jv.pre_size e101
  have ht1 : (r.extract 1 r.size).size ≤ r.size := by rw [ByteArray.size_extract]; omega
  have hD2 := Tryz.digits_any (r.extract 1 r.size) (by omega)
  have HX : Hid (isNumber s = num3 nought (dg1 (r.extract 1 r.size)) (dg2 (r.extract 1 r.size))) := HM.out.trans (by unfold num2; rw [if_pos (Or.inl e101)]; exact if_neg (by unfold tail1; rw [n43, n45]; simp))
  generalize dg1 (r.extract 1 r.size) = power at *
  generalize dg2 (r.extract 1 r.size) = rest at *
  clear HM ht1
  rcases hc with hc | ⟨hc, hc2⟩
  · skip
    have hp' : ¬ nought = emp := by decide
    by_cases hq : power.toList.isEmpty = true
    · have Hq' : Hid (power = emp) := (Jv.emp_iff power).2 hq
      go_enter Tryz.func38, Tryz.ntmps38
      go_wp2_with (first | (go_at_call 54; refine (hTP _).mono ?_; rintro e9 w9 ⟨rfl, rfl⟩) | (go_at_call 55; refine (hHP _ _ _).mono ?_; rintro e9 w9 ⟨rfl, rfl⟩) | (go_at_call 53; first | (refine (hD0 _).mono ?_; clear hD0; rintro e9 w1 ⟨rfl, hb1⟩) | (refine (hD1 _).mono ?_; clear hD1; rintro e9 w2 ⟨rfl, hb2⟩; replace hb1 := hb1.trans (hb2.mono hb1.size)) | (refine (hD2 _).mono ?_; clear hD2; rintro e9 w3 ⟨rfl, hb3⟩; replace hb1 := hb1.trans (hb3.mono hb1.size))) | fail)
      go_ret
      exact ⟨Jv.ret_bool (by rw [HX.out]; unfold num3; symm; simp [hp', Hq'.out]), hb1⟩
    · have hq' : ¬ power = emp := fun h => hq ((Jv.emp_iff power).1 h)
      have hq1 : power.toList.isEmpty = false := by simpa using hq
      clear hq
      by_cases hr : rest.toList.isEmpty = true
      · have Hr' : Hid (rest = emp) := (Jv.emp_iff rest).2 hr
        go_enter Tryz.func38, Tryz.ntmps38
        go_wp2_with (first | (go_at_call 54; refine (hTP _).mono ?_; rintro e9 w9 ⟨rfl, rfl⟩) | (go_at_call 55; refine (hHP _ _ _).mono ?_; rintro e9 w9 ⟨rfl, rfl⟩) | (go_at_call 53; first | (refine (hD0 _).mono ?_; clear hD0; rintro e9 w1 ⟨rfl, hb1⟩) | (refine (hD1 _).mono ?_; clear hD1; rintro e9 w2 ⟨rfl, hb2⟩; replace hb1 := hb1.trans (hb2.mono hb1.size)) | (refine (hD2 _).mono ?_; clear hD2; rintro e9 w3 ⟨rfl, hb3⟩; replace hb1 := hb1.trans (hb3.mono hb1.size))) | fail)
        go_ret
        exact ⟨Jv.ret_bool (by rw [HX.out]; unfold num3; symm; simp [hp', hq', Hr'.out]), hb1⟩
      · have hr' : ¬ rest = emp := fun h => hr ((Jv.emp_iff rest).1 h)
        have hr1 : rest.toList.isEmpty = false := by simpa using hr
        clear hr
        go_enter Tryz.func38, Tryz.ntmps38
        go_wp2_with (first | (go_at_call 54; refine (hTP _).mono ?_; rintro e9 w9 ⟨rfl, rfl⟩) | (go_at_call 55; refine (hHP _ _ _).mono ?_; rintro e9 w9 ⟨rfl, rfl⟩) | (go_at_call 53; first | (refine (hD0 _).mono ?_; clear hD0; rintro e9 w1 ⟨rfl, hb1⟩) | (refine (hD1 _).mono ?_; clear hD1; rintro e9 w2 ⟨rfl, hb2⟩; replace hb1 := hb1.trans (hb2.mono hb1.size)) | (refine (hD2 _).mono ?_; clear hD2; rintro e9 w3 ⟨rfl, hb3⟩; replace hb1 := hb1.trans (hb3.mono hb1.size))) | fail)
        go_ret
        exact ⟨Jv.ret_bool (by rw [HX.out]; unfold num3; symm; simp [hp', hq', hr']), hb1⟩
  · skip
    have hp' : ¬ nought = emp := by decide
    by_cases hq : power.toList.isEmpty = true
    · have Hq' : Hid (power = emp) := (Jv.emp_iff power).2 hq
      go_enter Tryz.func38, Tryz.ntmps38
      go_wp2_with (first | (go_at_call 54; refine (hTP _).mono ?_; rintro e9 w9 ⟨rfl, rfl⟩) | (go_at_call 55; refine (hHP _ _ _).mono ?_; rintro e9 w9 ⟨rfl, rfl⟩) | (go_at_call 53; first | (refine (hD0 _).mono ?_; clear hD0; rintro e9 w1 ⟨rfl, hb1⟩) | (refine (hD1 _).mono ?_; clear hD1; rintro e9 w2 ⟨rfl, hb2⟩; replace hb1 := hb1.trans (hb2.mono hb1.size)) | (refine (hD2 _).mono ?_; clear hD2; rintro e9 w3 ⟨rfl, hb3⟩; replace hb1 := hb1.trans (hb3.mono hb1.size))) | fail)
      go_ret
      exact ⟨Jv.ret_bool (by rw [HX.out]; unfold num3; symm; simp [hp', Hq'.out]), hb1⟩
    · have hq' : ¬ power = emp := fun h => hq ((Jv.emp_iff power).1 h)
      have hq1 : power.toList.isEmpty = false := by simpa using hq
      clear hq
      by_cases hr : rest.toList.isEmpty = true
      · have Hr' : Hid (rest = emp) := (Jv.emp_iff rest).2 hr
        go_enter Tryz.func38, Tryz.ntmps38
        go_wp2_with (first | (go_at_call 54; refine (hTP _).mono ?_; rintro e9 w9 ⟨rfl, rfl⟩) | (go_at_call 55; refine (hHP _ _ _).mono ?_; rintro e9 w9 ⟨rfl, rfl⟩) | (go_at_call 53; first | (refine (hD0 _).mono ?_; clear hD0; rintro e9 w1 ⟨rfl, hb1⟩) | (refine (hD1 _).mono ?_; clear hD1; rintro e9 w2 ⟨rfl, hb2⟩; replace hb1 := hb1.trans (hb2.mono hb1.size)) | (refine (hD2 _).mono ?_; clear hD2; rintro e9 w3 ⟨rfl, hb3⟩; replace hb1 := hb1.trans (hb3.mono hb1.size))) | fail)
        go_ret
        exact ⟨Jv.ret_bool (by rw [HX.out]; unfold num3; symm; simp [hp', hq', Hr'.out]), hb1⟩
      · have hr' : ¬ rest = emp := fun h => hr ((Jv.emp_iff rest).1 h)
        have hr1 : rest.toList.isEmpty = false := by simpa using hr
        clear hr
        go_enter Tryz.func38, Tryz.ntmps38
        go_wp2_with (first | (go_at_call 54; refine (hTP _).mono ?_; rintro e9 w9 ⟨rfl, rfl⟩) | (go_at_call 55; refine (hHP _ _ _).mono ?_; rintro e9 w9 ⟨rfl, rfl⟩) | (go_at_call 53; first | (refine (hD0 _).mono ?_; clear hD0; rintro e9 w1 ⟨rfl, hb1⟩) | (refine (hD1 _).mono ?_; clear hD1; rintro e9 w2 ⟨rfl, hb2⟩; replace hb1 := hb1.trans (hb2.mono hb1.size)) | (refine (hD2 _).mono ?_; clear hD2; rintro e9 w3 ⟨rfl, hb3⟩; replace hb1 := hb1.trans (hb3.mono hb1.size))) | fail)
        go_ret
        exact ⟨Jv.ret_bool (by rw [HX.out]; unfold num3; symm; simp [hp', hq', hr']), hb1⟩
set_option maxHeartbeats 4000000 in
theorem Tryz.num_nE43 (s a r : ByteArray) (_hs : s.size ≤ 5000) (w : World) (hae : a.toList.isEmpty = false) (hD0 : ∀ w, Calls Tryz.prog 53 #[.string (trim s)] w fun e w' => e = .returned (.tuple #[.string a, .string r]) ∧ Below w.heap.size w w') (hrs : r.size ≤ 5000) (h0 : 0 < a.size) (x0 : UInt8) (hg : a[0]'h0 = x0) (hc : (a.size : Int) ≤ 1 ∨ ((1 < (a.size : Int)) ∧ ((x0.toNat : Int) == 48) = false)) (n46 : pre r 46 = false) (m101 : pre r 101 = false) (e69 : pre r 69 = true) (s43 : pre (r.extract 1 r.size) 43 = true) (HM : Hid (isNumber s = num2 nought r)) :
    Calls Tryz.prog 38 #[.string s] w fun e w' => e = .returned (.bool (isNumber s)) ∧ Below w.heap.size w w' := by
  have hTP : ∀ w, Calls Tryz.prog 54 #[.string s, .string ⟨#[45]⟩] w fun e w' => e = .returned (.string (trim s)) ∧ w' = w := fun w => Tryz.strings_TrimPrefix s ⟨#[45]⟩ w
  have hHP : ∀ x c w, Calls Tryz.prog 55 #[.string x, .string ⟨#[c]⟩] w fun e w' => e = .returned (.bool (pre x c)) ∧ w' = w := fun x c w => Tryz.strings_HasPrefix x ⟨#[c]⟩ w
  have hz1 := Jv.pre_size e69
  have ht1 : (r.extract 1 r.size).size ≤ r.size := by rw [ByteArray.size_extract]; omega
  have hz2 := Jv.pre_size s43
  have ht2 : ((r.extract 1 r.size).extract 1 (r.extract 1 r.size).size).size ≤ (r.extract 1 r.size).size := by rw [ByteArray.size_extract]; omega
  have hD2 := Tryz.digits_any ((r.extract 1 r.size).extract 1 (r.extract 1 r.size).size) (by omega)
  have HX : Hid (isNumber s = num3 nought (dg1 ((r.extract 1 r.size).extract 1 (r.extract 1 r.size).size)) (dg2 ((r.extract 1 r.size).extract 1 (r.extract 1 r.size).size))) := HM.out.trans (by unfold num2; rw [if_pos (Or.inr e69)]; exact if_pos (Or.inl s43))
  generalize dg1 ((r.extract 1 r.size).extract 1 (r.extract 1 r.size).size) = power at *
  generalize dg2 ((r.extract 1 r.size).extract 1 (r.extract 1 r.size).size) = rest at *
  have e0sz : (r.extract 1 r.size).size = r.size - 1 := by rw [ByteArray.size_extract]; omega
  rw [e0sz] at hD2 hz2
  have hz3 : (2 : Int) ≤ r.size := by omega
  clear HM ht1 ht2 hz2 e0sz
  rcases hc with hc | ⟨hc, hc2⟩
  · skip
    have hp' : ¬ nought = emp := by decide
    by_cases hq : power.toList.isEmpty = true
    · have Hq' : Hid (power = emp) := (Jv.emp_iff power).2 hq
      go_enter Tryz.func38, Tryz.ntmps38
      go_wp2_with (first | (go_at_call 54; refine (hTP _).mono ?_; rintro e9 w9 ⟨rfl, rfl⟩) | (go_at_call 55; refine (hHP _ _ _).mono ?_; rintro e9 w9 ⟨rfl, rfl⟩) | (go_at_call 53; first | (refine (hD0 _).mono ?_; clear hD0; rintro e9 w1 ⟨rfl, hb1⟩) | (refine (hD1 _).mono ?_; clear hD1; rintro e9 w2 ⟨rfl, hb2⟩; replace hb1 := hb1.trans (hb2.mono hb1.size)) | (refine (hD2 _).mono ?_; clear hD2; rintro e9 w3 ⟨rfl, hb3⟩; replace hb1 := hb1.trans (hb3.mono hb1.size))) | fail)
      go_ret
      exact ⟨Jv.ret_bool (by rw [HX.out]; unfold num3; symm; simp [hp', Hq'.out]), hb1⟩
    · have hq' : ¬ power = emp := fun h => hq ((Jv.emp_iff power).1 h)
      have hq1 : power.toList.isEmpty = false := by simpa using hq
      clear hq
      by_cases hr : rest.toList.isEmpty = true
      · have Hr' : Hid (rest = emp) := (Jv.emp_iff rest).2 hr
        go_enter Tryz.func38, Tryz.ntmps38
        go_wp2_with (first | (go_at_call 54; refine (hTP _).mono ?_; rintro e9 w9 ⟨rfl, rfl⟩) | (go_at_call 55; refine (hHP _ _ _).mono ?_; rintro e9 w9 ⟨rfl, rfl⟩) | (go_at_call 53; first | (refine (hD0 _).mono ?_; clear hD0; rintro e9 w1 ⟨rfl, hb1⟩) | (refine (hD1 _).mono ?_; clear hD1; rintro e9 w2 ⟨rfl, hb2⟩; replace hb1 := hb1.trans (hb2.mono hb1.size)) | (refine (hD2 _).mono ?_; clear hD2; rintro e9 w3 ⟨rfl, hb3⟩; replace hb1 := hb1.trans (hb3.mono hb1.size))) | fail)
        go_ret
        exact ⟨Jv.ret_bool (by rw [HX.out]; unfold num3; symm; simp [hp', hq', Hr'.out]), hb1⟩
      · have hr' : ¬ rest = emp := fun h => hr ((Jv.emp_iff rest).1 h)
        have hr1 : rest.toList.isEmpty = false := by simpa using hr
        clear hr
        go_enter Tryz.func38, Tryz.ntmps38
        go_wp2_with (first | (go_at_call 54; refine (hTP _).mono ?_; rintro e9 w9 ⟨rfl, rfl⟩) | (go_at_call 55; refine (hHP _ _ _).mono ?_; rintro e9 w9 ⟨rfl, rfl⟩) | (go_at_call 53; first | (refine (hD0 _).mono ?_; clear hD0; rintro e9 w1 ⟨rfl, hb1⟩) | (refine (hD1 _).mono ?_; clear hD1; rintro e9 w2 ⟨rfl, hb2⟩; replace hb1 := hb1.trans (hb2.mono hb1.size)) | (refine (hD2 _).mono ?_; clear hD2; rintro e9 w3 ⟨rfl, hb3⟩; replace hb1 := hb1.trans (hb3.mono hb1.size))) | fail)
        go_ret
        exact ⟨Jv.ret_bool (by rw [HX.out]; unfold num3; symm; simp [hp', hq', hr']), hb1⟩
  · skip
    have hp' : ¬ nought = emp := by decide
    by_cases hq : power.toList.isEmpty = true
    · have Hq' : Hid (power = emp) := (Jv.emp_iff power).2 hq
      go_enter Tryz.func38, Tryz.ntmps38
      go_wp2_with (first | (go_at_call 54; refine (hTP _).mono ?_; rintro e9 w9 ⟨rfl, rfl⟩) | (go_at_call 55; refine (hHP _ _ _).mono ?_; rintro e9 w9 ⟨rfl, rfl⟩) | (go_at_call 53; first | (refine (hD0 _).mono ?_; clear hD0; rintro e9 w1 ⟨rfl, hb1⟩) | (refine (hD1 _).mono ?_; clear hD1; rintro e9 w2 ⟨rfl, hb2⟩; replace hb1 := hb1.trans (hb2.mono hb1.size)) | (refine (hD2 _).mono ?_; clear hD2; rintro e9 w3 ⟨rfl, hb3⟩; replace hb1 := hb1.trans (hb3.mono hb1.size))) | fail)
      go_ret
      exact ⟨Jv.ret_bool (by rw [HX.out]; unfold num3; symm; simp [hp', Hq'.out]), hb1⟩
    · have hq' : ¬ power = emp := fun h => hq ((Jv.emp_iff power).1 h)
      have hq1 : power.toList.isEmpty = false := by simpa using hq
      clear hq
      by_cases hr : rest.toList.isEmpty = true
      · have Hr' : Hid (rest = emp) := (Jv.emp_iff rest).2 hr
        go_enter Tryz.func38, Tryz.ntmps38
        go_wp2_with (first | (go_at_call 54; refine (hTP _).mono ?_; rintro e9 w9 ⟨rfl, rfl⟩) | (go_at_call 55; refine (hHP _ _ _).mono ?_; rintro e9 w9 ⟨rfl, rfl⟩) | (go_at_call 53; first | (refine (hD0 _).mono ?_; clear hD0; rintro e9 w1 ⟨rfl, hb1⟩) | (refine (hD1 _).mono ?_; clear hD1; rintro e9 w2 ⟨rfl, hb2⟩; replace hb1 := hb1.trans (hb2.mono hb1.size)) | (refine (hD2 _).mono ?_; clear hD2; rintro e9 w3 ⟨rfl, hb3⟩; replace hb1 := hb1.trans (hb3.mono hb1.size))) | fail)
        go_ret
        exact ⟨Jv.ret_bool (by rw [HX.out]; unfold num3; symm; simp [hp', hq', Hr'.out]), hb1⟩
      · have hr' : ¬ rest = emp := fun h => hr ((Jv.emp_iff rest).1 h)
        have hr1 : rest.toList.isEmpty = false := by simpa using hr
        clear hr
        go_enter Tryz.func38, Tryz.ntmps38
        go_wp2_with (first | (go_at_call 54; refine (hTP _).mono ?_; rintro e9 w9 ⟨rfl, rfl⟩) | (go_at_call 55; refine (hHP _ _ _).mono ?_; rintro e9 w9 ⟨rfl, rfl⟩) | (go_at_call 53; first | (refine (hD0 _).mono ?_; clear hD0; rintro e9 w1 ⟨rfl, hb1⟩) | (refine (hD1 _).mono ?_; clear hD1; rintro e9 w2 ⟨rfl, hb2⟩; replace hb1 := hb1.trans (hb2.mono hb1.size)) | (refine (hD2 _).mono ?_; clear hD2; rintro e9 w3 ⟨rfl, hb3⟩; replace hb1 := hb1.trans (hb3.mono hb1.size))) | fail)
        go_ret
        exact ⟨Jv.ret_bool (by rw [HX.out]; unfold num3; symm; simp [hp', hq', hr']), hb1⟩
set_option maxHeartbeats 4000000 in
theorem Tryz.num_nE45 (s a r : ByteArray) (_hs : s.size ≤ 5000) (w : World) (hae : a.toList.isEmpty = false) (hD0 : ∀ w, Calls Tryz.prog 53 #[.string (trim s)] w fun e w' => e = .returned (.tuple #[.string a, .string r]) ∧ Below w.heap.size w w') (hrs : r.size ≤ 5000) (h0 : 0 < a.size) (x0 : UInt8) (hg : a[0]'h0 = x0) (hc : (a.size : Int) ≤ 1 ∨ ((1 < (a.size : Int)) ∧ ((x0.toNat : Int) == 48) = false)) (n46 : pre r 46 = false) (m101 : pre r 101 = false) (e69 : pre r 69 = true) (n43 : pre (r.extract 1 r.size) 43 = false) (s45 : pre (r.extract 1 r.size) 45 = true) (HM : Hid (isNumber s = num2 nought r)) :
    Calls Tryz.prog 38 #[.string s] w fun e w' => e = .returned (.bool (isNumber s)) ∧ Below w.heap.size w w' := by
  have hTP : ∀ w, Calls Tryz.prog 54 #[.string s, .string ⟨#[45]⟩] w fun e w' => e = .returned (.string (trim s)) ∧ w' = w := fun w => Tryz.strings_TrimPrefix s ⟨#[45]⟩ w
  have hHP : ∀ x c w, Calls Tryz.prog 55 #[.string x, .string ⟨#[c]⟩] w fun e w' => e = .returned (.bool (pre x c)) ∧ w' = w := fun x c w => Tryz.strings_HasPrefix x ⟨#[c]⟩ w
  have hz1 := Jv.pre_size e69
  have ht1 : (r.extract 1 r.size).size ≤ r.size := by rw [ByteArray.size_extract]; omega
  have hz2 := Jv.pre_size s45
  have ht2 : ((r.extract 1 r.size).extract 1 (r.extract 1 r.size).size).size ≤ (r.extract 1 r.size).size := by rw [ByteArray.size_extract]; omega
  have hD2 := Tryz.digits_any ((r.extract 1 r.size).extract 1 (r.extract 1 r.size).size) (by omega)
  have HX : Hid (isNumber s = num3 nought (dg1 ((r.extract 1 r.size).extract 1 (r.extract 1 r.size).size)) (dg2 ((r.extract 1 r.size).extract 1 (r.extract 1 r.size).size))) := HM.out.trans (by unfold num2; rw [if_pos (Or.inr e69)]; exact if_pos (Or.inr s45))
  generalize dg1 ((r.extract 1 r.size).extract 1 (r.extract 1 r.size).size) = power at *
  generalize dg2 ((r.extract 1 r.size).extract 1 (r.extract 1 r.size).size) = rest at *
  have e0sz : (r.extract 1 r.size).size = r.size - 1 := by rw [ByteArray.size_extract]; omega
  rw [e0sz] at hD2 hz2
  have hz3 : (2 : Int) ≤ r.size := by omega
  clear HM ht1 ht2 hz2 e0sz
  rcases hc with hc | ⟨hc, hc2⟩
  · skip
    have hp' : ¬ nought = emp := by decide
    by_cases hq : power.toList.isEmpty = true
    · have Hq' : Hid (power = emp) := (Jv.emp_iff power).2 hq
      go_enter Tryz.func38, Tryz.ntmps38
      go_wp2_with (first | (go_at_call 54; refine (hTP _).mono ?_; rintro e9 w9 ⟨rfl, rfl⟩) | (go_at_call 55; refine (hHP _ _ _).mono ?_; rintro e9 w9 ⟨rfl, rfl⟩) | (go_at_call 53; first | (refine (hD0 _).mono ?_; clear hD0; rintro e9 w1 ⟨rfl, hb1⟩) | (refine (hD1 _).mono ?_; clear hD1; rintro e9 w2 ⟨rfl, hb2⟩; replace hb1 := hb1.trans (hb2.mono hb1.size)) | (refine (hD2 _).mono ?_; clear hD2; rintro e9 w3 ⟨rfl, hb3⟩; replace hb1 := hb1.trans (hb3.mono hb1.size))) | fail)
      go_ret
      exact ⟨Jv.ret_bool (by rw [HX.out]; unfold num3; symm; simp [hp', Hq'.out]), hb1⟩
    · have hq' : ¬ power = emp := fun h => hq ((Jv.emp_iff power).1 h)
      have hq1 : power.toList.isEmpty = false := by simpa using hq
      clear hq
      by_cases hr : rest.toList.isEmpty = true
      · have Hr' : Hid (rest = emp) := (Jv.emp_iff rest).2 hr
        go_enter Tryz.func38, Tryz.ntmps38
        go_wp2_with (first | (go_at_call 54; refine (hTP _).mono ?_; rintro e9 w9 ⟨rfl, rfl⟩) | (go_at_call 55; refine (hHP _ _ _).mono ?_; rintro e9 w9 ⟨rfl, rfl⟩) | (go_at_call 53; first | (refine (hD0 _).mono ?_; clear hD0; rintro e9 w1 ⟨rfl, hb1⟩) | (refine (hD1 _).mono ?_; clear hD1; rintro e9 w2 ⟨rfl, hb2⟩; replace hb1 := hb1.trans (hb2.mono hb1.size)) | (refine (hD2 _).mono ?_; clear hD2; rintro e9 w3 ⟨rfl, hb3⟩; replace hb1 := hb1.trans (hb3.mono hb1.size))) | fail)
        go_ret
        exact ⟨Jv.ret_bool (by rw [HX.out]; unfold num3; symm; simp [hp', hq', Hr'.out]), hb1⟩
      · have hr' : ¬ rest = emp := fun h => hr ((Jv.emp_iff rest).1 h)
        have hr1 : rest.toList.isEmpty = false := by simpa using hr
        clear hr
        go_enter Tryz.func38, Tryz.ntmps38
        go_wp2_with (first | (go_at_call 54; refine (hTP _).mono ?_; rintro e9 w9 ⟨rfl, rfl⟩) | (go_at_call 55; refine (hHP _ _ _).mono ?_; rintro e9 w9 ⟨rfl, rfl⟩) | (go_at_call 53; first | (refine (hD0 _).mono ?_; clear hD0; rintro e9 w1 ⟨rfl, hb1⟩) | (refine (hD1 _).mono ?_; clear hD1; rintro e9 w2 ⟨rfl, hb2⟩; replace hb1 := hb1.trans (hb2.mono hb1.size)) | (refine (hD2 _).mono ?_; clear hD2; rintro e9 w3 ⟨rfl, hb3⟩; replace hb1 := hb1.trans (hb3.mono hb1.size))) | fail)
        go_ret
        exact ⟨Jv.ret_bool (by rw [HX.out]; unfold num3; symm; simp [hp', hq', hr']), hb1⟩
  · skip
    have hp' : ¬ nought = emp := by decide
    by_cases hq : power.toList.isEmpty = true
    · have Hq' : Hid (power = emp) := (Jv.emp_iff power).2 hq
      go_enter Tryz.func38, Tryz.ntmps38
      go_wp2_with (first | (go_at_call 54; refine (hTP _).mono ?_; rintro e9 w9 ⟨rfl, rfl⟩) | (go_at_call 55; refine (hHP _ _ _).mono ?_; rintro e9 w9 ⟨rfl, rfl⟩) | (go_at_call 53; first | (refine (hD0 _).mono ?_; clear hD0; rintro e9 w1 ⟨rfl, hb1⟩) | (refine (hD1 _).mono ?_; clear hD1; rintro e9 w2 ⟨rfl, hb2⟩; replace hb1 := hb1.trans (hb2.mono hb1.size)) | (refine (hD2 _).mono ?_; clear hD2; rintro e9 w3 ⟨rfl, hb3⟩; replace hb1 := hb1.trans (hb3.mono hb1.size))) | fail)
      go_ret
      exact ⟨Jv.ret_bool (by rw [HX.out]; unfold num3; symm; simp [hp', Hq'.out]), hb1⟩
    · have hq' : ¬ power = emp := fun h => hq ((Jv.emp_iff power).1 h)
      have hq1 : power.toList.isEmpty = false := by simpa using hq
      clear hq
      by_cases hr : rest.toList.isEmpty = true
      · have Hr' : Hid (rest = emp) := (Jv.emp_iff rest).2 hr
        go_enter Tryz.func38, Tryz.ntmps38
        go_wp2_with (first | (go_at_call 54; refine (hTP _).mono ?_; rintro e9 w9 ⟨rfl, rfl⟩) | (go_at_call 55; refine (hHP _ _ _).mono ?_; rintro e9 w9 ⟨rfl, rfl⟩) | (go_at_call 53; first | (refine (hD0 _).mono ?_; clear hD0; rintro e9 w1 ⟨rfl, hb1⟩) | (refine (hD1 _).mono ?_; clear hD1; rintro e9 w2 ⟨rfl, hb2⟩; replace hb1 := hb1.trans (hb2.mono hb1.size)) | (refine (hD2 _).mono ?_; clear hD2; rintro e9 w3 ⟨rfl, hb3⟩; replace hb1 := hb1.trans (hb3.mono hb1.size))) | fail)
        go_ret
        exact ⟨Jv.ret_bool (by rw [HX.out]; unfold num3; symm; simp [hp', hq', Hr'.out]), hb1⟩
      · have hr' : ¬ rest = emp := fun h => hr ((Jv.emp_iff rest).1 h)
        have hr1 : rest.toList.isEmpty = false := by simpa using hr
        clear hr
        go_enter Tryz.func38, Tryz.ntmps38
        go_wp2_with (first | (go_at_call 54; refine (hTP _).mono ?_; rintro e9 w9 ⟨rfl, rfl⟩) | (go_at_call 55; refine (hHP _ _ _).mono ?_; rintro e9 w9 ⟨rfl, rfl⟩) | (go_at_call 53; first | (refine (hD0 _).mono ?_; clear hD0; rintro e9 w1 ⟨rfl, hb1⟩) | (refine (hD1 _).mono ?_; clear hD1; rintro e9 w2 ⟨rfl, hb2⟩; replace hb1 := hb1.trans (hb2.mono hb1.size)) | (refine (hD2 _).mono ?_; clear hD2; rintro e9 w3 ⟨rfl, hb3⟩; replace hb1 := hb1.trans (hb3.mono hb1.size))) | fail)
        go_ret
        exact ⟨Jv.ret_bool (by rw [HX.out]; unfold num3; symm; simp [hp', hq', hr']), hb1⟩
set_option maxHeartbeats 4000000 in
theorem Tryz.num_nE (s a r : ByteArray) (_hs : s.size ≤ 5000) (w : World) (hae : a.toList.isEmpty = false) (hD0 : ∀ w, Calls Tryz.prog 53 #[.string (trim s)] w fun e w' => e = .returned (.tuple #[.string a, .string r]) ∧ Below w.heap.size w w') (hrs : r.size ≤ 5000) (h0 : 0 < a.size) (x0 : UInt8) (hg : a[0]'h0 = x0) (hc : (a.size : Int) ≤ 1 ∨ ((1 < (a.size : Int)) ∧ ((x0.toNat : Int) == 48) = false)) (n46 : pre r 46 = false) (m101 : pre r 101 = false) (e69 : pre r 69 = true) (n43 : pre (r.extract 1 r.size) 43 = false) (n45 : pre (r.extract 1 r.size) 45 = false) (HM : Hid (isNumber s = num2 nought r)) :
    Calls Tryz.prog 38 #[.string s] w fun e w' => e = .returned (.bool (isNumber s)) ∧ Below w.heap.size w w' := by
  have hTP : ∀ w, Calls Tryz.prog 54 #[.string s, .string ⟨#[45]⟩] w fun e w' => e = .returned (.string (trim s)) ∧ w' = w := fun w => Tryz.strings_TrimPrefix s ⟨#[45]⟩ w
  have hHP : ∀ x c w, Calls Tryz.prog 55 #[.string x, .string ⟨#[c]⟩] w fun e w' => e = .returned (.bool (pre x c)) ∧ w' = w := fun x c w => Tryz.strings_HasPrefix x ⟨#[c]⟩ w
  have hz1 := Jv.pre_size e69
  have ht1 : (r.extract 1 r.size).size ≤ r.size := by rw [ByteArray.size_extract]; omega
  have hD2 := Tryz.digits_any (r.extract 1 r.size) (by omega)
  have HX : Hid (isNumber s = num3 nought (dg1 (r.extract 1 r.size)) (dg2 (r.extract 1 r.size))) := HM.out.trans (by unfold num2; rw [if_pos (Or.inr e69)]; exact if_neg (by unfold tail1; rw [n43, n45]; simp))
  generalize dg1 (r.extract 1 r.size) = power at *
  generalize dg2 (r.extract 1 r.size) = rest at *
  clear HM ht1
  rcases hc with hc | ⟨hc, hc2⟩
  · skip
    have hp' : ¬ nought = emp := by decide
    by_cases hq : power.toList.isEmpty = true
    · have Hq' : Hid (power = emp) := (Jv.emp_iff power).2 hq
      go_enter Tryz.func38, Tryz.ntmps38
      go_wp2_with (first | (go_at_call 54; refine (hTP _).mono ?_; rintro e9 w9 ⟨rfl, rfl⟩) | (go_at_call 55; refine (hHP _ _ _).mono ?_; rintro e9 w9 ⟨rfl, rfl⟩) | (go_at_call 53; first | (refine (hD0 _).mono ?_; clear hD0; rintro e9 w1 ⟨rfl, hb1⟩) | (refine (hD1 _).mono ?_; clear hD1; rintro e9 w2 ⟨rfl, hb2⟩; replace hb1 := hb1.trans (hb2.mono hb1.size)) | (refine (hD2 _).mono ?_; clear hD2; rintro e9 w3 ⟨rfl, hb3⟩; replace hb1 := hb1.trans (hb3.mono hb1.size))) | fail)
      go_ret
      exact ⟨Jv.ret_bool (by rw [HX.out]; unfold num3; symm; simp [hp', Hq'.out]), hb1⟩
    · have hq' : ¬ power = emp := fun h => hq ((Jv.emp_iff power).1 h)
      have hq1 : power.toList.isEmpty = false := by simpa using hq
      clear hq
      by_cases hr : rest.toList.isEmpty = true
      · have Hr' : Hid (rest = emp) := (Jv.emp_iff rest).2 hr
        go_enter Tryz.func38, Tryz.ntmps38
        go_wp2_with (first | (go_at_call 54; refine (hTP _).mono ?_; rintro e9 w9 ⟨rfl, rfl⟩) | (go_at_call 55; refine (hHP _ _ _).mono ?_; rintro e9 w9 ⟨rfl, rfl⟩) | (go_at_call 53; first | (refine (hD0 _).mono ?_; clear hD0; rintro e9 w1 ⟨rfl, hb1⟩) | (refine (hD1 _).mono ?_; clear hD1; rintro e9 w2 ⟨rfl, hb2⟩; replace hb1 := hb1.trans (hb2.mono hb1.size)) | (refine (hD2 _).mono ?_; clear hD2; rintro e9 w3 ⟨rfl, hb3⟩; replace hb1 := hb1.trans (hb3.mono hb1.size))) | fail)
        go_ret
        exact ⟨Jv.ret_bool (by rw [HX.out]; unfold num3; symm; simp [hp', hq', Hr'.out]), hb1⟩
      · have hr' : ¬ rest = emp := fun h => hr ((Jv.emp_iff rest).1 h)
        have hr1 : rest.toList.isEmpty = false := by simpa using hr
        clear hr
        go_enter Tryz.func38, Tryz.ntmps38
        go_wp2_with (first | (go_at_call 54; refine (hTP _).mono ?_; rintro e9 w9 ⟨rfl, rfl⟩) | (go_at_call 55; refine (hHP _ _ _).mono ?_; rintro e9 w9 ⟨rfl, rfl⟩) | (go_at_call 53; first | (refine (hD0 _).mono ?_; clear hD0; rintro e9 w1 ⟨rfl, hb1⟩) | (refine (hD1 _).mono ?_; clear hD1; rintro e9 w2 ⟨rfl, hb2⟩; replace hb1 := hb1.trans (hb2.mono hb1.size)) | (refine (hD2 _).mono ?_; clear hD2; rintro e9 w3 ⟨rfl, hb3⟩; replace hb1 := hb1.trans (hb3.mono hb1.size))) | fail)
        go_ret
        exact ⟨Jv.ret_bool (by rw [HX.out]; unfold num3; symm; simp [hp', hq', hr']), hb1⟩
  · skip
    have hp' : ¬ nought = emp := by decide
    by_cases hq : power.toList.isEmpty = true
    · have Hq' : Hid (power = emp) := (Jv.emp_iff power).2 hq
      go_enter Tryz.func38, Tryz.ntmps38
      go_wp2_with (first | (go_at_call 54; refine (hTP _).mono ?_; rintro e9 w9 ⟨rfl, rfl⟩) | (go_at_call 55; refine (hHP _ _ _).mono ?_; rintro e9 w9 ⟨rfl, rfl⟩) | (go_at_call 53; first | (refine (hD0 _).mono ?_; clear hD0; rintro e9 w1 ⟨rfl, hb1⟩) | (refine (hD1 _).mono ?_; clear hD1; rintro e9 w2 ⟨rfl, hb2⟩; replace hb1 := hb1.trans (hb2.mono hb1.size)) | (refine (hD2 _).mono ?_; clear hD2; rintro e9 w3 ⟨rfl, hb3⟩; replace hb1 := hb1.trans (hb3.mono hb1.size))) | fail)
      go_ret
      exact ⟨Jv.ret_bool (by rw [HX.out]; unfold num3; symm; simp [hp', Hq'.out]), hb1⟩
    · have hq' : ¬ power = emp := fun h => hq ((Jv.emp_iff power).1 h)
      have hq1 : power.toList.isEmpty = false := by simpa using hq
      clear hq
      by_cases hr : rest.toList.isEmpty = true
      · have Hr' : Hid (rest = emp) := (Jv.emp_iff rest).2 hr
        go_enter Tryz.func38, Tryz.ntmps38
        go_wp2_with (first | (go_at_call 54; refine (hTP _).mono ?_; rintro e9 w9 ⟨rfl, rfl⟩) | (go_at_call 55; refine (hHP _ _ _).mono ?_; rintro e9 w9 ⟨rfl, rfl⟩) | (go_at_call 53; first | (refine (hD0 _).mono ?_; clear hD0; rintro e9 w1 ⟨rfl, hb1⟩) | (refine (hD1 _).mono ?_; clear hD1; rintro e9 w2 ⟨rfl, hb2⟩; replace hb1 := hb1.trans (hb2.mono hb1.size)) | (refine (hD2 _).mono ?_; clear hD2; rintro e9 w3 ⟨rfl, hb3⟩; replace hb1 := hb1.trans (hb3.mono hb1.size))) | fail)
        go_ret
        exact ⟨Jv.ret_bool (by rw [HX.out]; unfold num3; symm; simp [hp', hq', Hr'.out]), hb1⟩
      · have hr' : ¬ rest = emp := fun h => hr ((Jv.emp_iff rest).1 h)
        have hr1 : rest.toList.isEmpty = false := by simpa using hr
        clear hr
        go_enter Tryz.func38, Tryz.ntmps38
        go_wp2_with (first | (go_at_call 54; refine (hTP _).mono ?_; rintro e9 w9 ⟨rfl, rfl⟩) | (go_at_call 55; refine (hHP _ _ _).mono ?_; rintro e9 w9 ⟨rfl, rfl⟩) | (go_at_call 53; first | (refine (hD0 _).mono ?_; clear hD0; rintro e9 w1 ⟨rfl, hb1⟩) | (refine (hD1 _).mono ?_; clear hD1; rintro e9 w2 ⟨rfl, hb2⟩; replace hb1 := hb1.trans (hb2.mono hb1.size)) | (refine (hD2 _).mono ?_; clear hD2; rintro e9 w3 ⟨rfl, hb3⟩; replace hb1 := hb1.trans (hb3.mono hb1.size))) | fail)
        go_ret
        exact ⟨Jv.ret_bool (by rw [HX.out]; unfold num3; symm; simp [hp', hq', hr']), hb1⟩
end Go.Proofs
