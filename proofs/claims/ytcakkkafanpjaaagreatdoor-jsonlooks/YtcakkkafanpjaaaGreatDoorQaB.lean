/-
  Laid together by packg.py of Jr2 Jr3.
-/
import Derived.Test.YtcakkkafanpjaaaGreatDoorQaA
import Derived.Deep.LoopGhost
namespace Go.Proofs
open Go.RowKit Go.Jv
theorem Jv.runTo_le (f : UInt8 → Bool) (t : ByteArray) : ∀ (n p : Nat), p ≤ t.size → p ≤ runTo f t n p ∧ runTo f t n p ≤ t.size
  | 0, p, h => ⟨Nat.le_refl _, h⟩
  | n + 1, p, h => by
    rw [runTo]
    split
    · next hc => have := Jv.runTo_le f t n (p + 1) hc.1; omega
    · exact ⟨Nat.le_refl _, h⟩
theorem Jv.run_le (f : UInt8 → Bool) (t : ByteArray) (p : Nat) (h : p ≤ t.size) : p ≤ run f t p ∧ run f t p ≤ t.size := Jv.runTo_le f t _ p h
theorem Jv.run_step (f : UInt8 → Bool) (t : ByteArray) (p : Nat) (h : p < t.size) (hf : f (t.get! p) = true) : run f t p = run f t (p + 1) := by
  unfold run
  rw [show t.size - p = (t.size - (p + 1)) + 1 by omega, runTo, if_pos ⟨h, hf⟩]
theorem Jv.run_stop (f : UInt8 → Bool) (t : ByteArray) (p : Nat) (hf : p < t.size → f (t.get! p) = false) : run f t p = p := by
  unfold run
  cases hn : t.size - p with
  | zero => rfl
  | succ n => rw [runTo, if_neg (fun hc => by have := hf hc.1; rw [this] at hc; exact absurd hc.2 (by simp))]
theorem Jv.ofNumber_idx (c : UInt8) : (0 ≤ Lib.indexByte [43, 45, 46, 101, 69] c) ↔ (c.toNat = 43 ∨ c.toNat = 45 ∨ c.toNat = 46 ∨ c.toNat = 101 ∨ c.toNat = 69) := by
  have h : ∀ n : Fin 256, (0 ≤ Lib.indexByte [43, 45, 46, 101, 69] (UInt8.ofNat n)) ↔ ((n : Nat) = 43 ∨ (n : Nat) = 45 ∨ (n : Nat) = 46 ∨ (n : Nat) = 101 ∨ (n : Nat) = 69) := by decide +kernel
  have := h ⟨c.toNat, c.toNat_lt⟩
  simpa using this
theorem Tryz.isOfNumber_any (c : UInt8) (w : World) : Calls Tryz.prog 120 #[.int .u8 c.toNat] w fun en w' => en = .returned (.bool (isOfNumber c)) ∧ w' = w := by
  have hi := Jv.ofNumber_idx c
  have HI : Hid (0 ≤ Lib.indexByte [43, 45, 46, 101, 69] c ↔ (c.toNat = 43 ∨ c.toNat = 45 ∨ c.toNat = 46 ∨ c.toNat = 101 ∨ c.toNat = 69)) := hi
  clear hi
  by_cases hd : isDigit c = true
  · go_enter Tryz.func120, Tryz.ntmps120
    go_wp2_with (go_at_call 105; refine (Tryz.isDigit_any _ _).mono ?_; rintro e w' ⟨rfl, rfl⟩)
    go_ret
    refine ⟨Jv.ret_bool ?_, rfl⟩
    have := hd
    simp [isDigit] at this
    simp [isOfNumber, this]
  · have hd' : isDigit c = false := by simpa using hd
    clear hd
    go_enter Tryz.func120, Tryz.ntmps120
    go_wp2_with (first | (go_at_call 105; refine (Tryz.isDigit_any _ _).mono ?_; rintro e w' ⟨rfl, rfl⟩) | (go_at_call 151; refine (Tryz.strings_IndexByte _ _ _).mono ?_; rintro e w' ⟨rfl, rfl⟩))
    go_ret
    refine ⟨Jv.ret_bool ?_, rfl⟩
    have h2 := HI.out
    rw [Bool.eq_iff_iff]
    simp [isDigit] at hd'
    simp [isOfNumber]
    rw [h2]
    omega
set_option maxHeartbeats 1000000 in
theorem Tryz.run_isBlank {w : World} {b : Nat} {t : ByteArray} {p o : Nat} (h : Rd w b t p o) :
    Calls Tryz.prog 100 #[.pointer (some ⟨b, 0, none⟩), .func (.func 101) #[] #[]] w fun en w' =>
      en = .returned (.string (sub t p (run isBlank t p))) ∧ Rd w' b t (run isBlank t p) o ∧ Wk b w w' := by
  have H0 : Hid (Rd w b t p o) := h
  obtain ⟨c0, c1, c2, f0, f1, f2, hb, hp, ht, ho⟩ := h
  go_enter Tryz.func100, Tryz.ntmps100
  go_wp2
  go_loopg [] (t.size - p) (fun k wr => ∃ q : Nat, p ≤ q ∧ q ≤ t.size ∧ k = t.size - q ∧ run isBlank t q = run isBlank t p ∧ Rd wr b t q o ∧ Wk b w wr)
  case atStart => exact ⟨p, Nat.le_refl _, hp, rfl, rfl, H0.out, Wk.refl _ _⟩
  case round =>
    obtain ⟨q, hpq, hq, hk, he, hR, hW⟩ := hrel
    clear c0 c1 c2 f0 f1 f2 hb
    have HR : Hid (Rd wr b t q o) := hR
    have HE : Hid (run isBlank t q = run isBlank t p) := he
    have HK : Hid (gk = t.size - q) := hk
    obtain ⟨c0, c1, c2, f0, f1, f2, hb, -, -, -⟩ := hR
    clear he hk
    by_cases hlt : q < t.size
    · have hg := Jv.get_eq t q hlt
      by_cases hf : isBlank (t.get! q) = true
      · have HS := Jv.run_step isBlank t q hlt hf
        have HS' : Hid (run isBlank t q = run isBlank t (q + 1)) := HS
        clear HS
        go_wp2
        go_quiet ((go_at_call 101; exact Calls.quiet_of_same (Tryz.isBlank_any _ _)))
        go_wp2
        go_roundg (t.size - (q + 1))
        case measure => have := HK.out; omega
        case rel => exact ⟨q + 1, by omega, by omega, rfl, HS'.out.symm.trans HE.out, HR.out.atN _ _ _ (by omega) hlt, (hW.drewN _).setCell _ _ _⟩
      · have hf' : isBlank (t.get! q) = false := by simpa using hf
        have HS : Hid (run isBlank t q = q) := Jv.run_stop isBlank t q (fun _ => hf')
        clear hf
        go_wp2
        go_quiet ((go_at_call 101; exact Calls.quiet_of_same (Tryz.isBlank_any _ _)))
        go_wp2
        go_quiet (fail)
        go_wp2
        go_ret
        have e : run isBlank t p = q := HE.out.symm.trans HS.out
        rw [e]
        exact ⟨rfl, by simpa using HR.out.drewN _, by simpa using hW.drewN _⟩
    · have HS : Hid (run isBlank t q = q) := Jv.run_stop isBlank t q (fun h => absurd h hlt)
      obtain rfl : q = t.size := by omega
      go_wp2
      go_quiet (fail)
      go_wp2
      go_quiet (fail)
      go_wp2
      go_ret
      have e : run isBlank t p = t.size := HE.out.symm.trans HS.out
      rw [e]
      exact ⟨rfl, by simpa using HR.out.drewN _, by simpa using hW.drewN _⟩
set_option maxHeartbeats 1000000 in
theorem Tryz.run_isLetter {w : World} {b : Nat} {t : ByteArray} {p o : Nat} (h : Rd w b t p o) :
    Calls Tryz.prog 100 #[.pointer (some ⟨b, 0, none⟩), .func (.func 103) #[] #[]] w fun en w' =>
      en = .returned (.string (sub t p (run isLetter t p))) ∧ Rd w' b t (run isLetter t p) o ∧ Wk b w w' := by
  have H0 : Hid (Rd w b t p o) := h
  obtain ⟨c0, c1, c2, f0, f1, f2, hb, hp, ht, ho⟩ := h
  go_enter Tryz.func100, Tryz.ntmps100
  go_wp2
  go_loopg [] (t.size - p) (fun k wr => ∃ q : Nat, p ≤ q ∧ q ≤ t.size ∧ k = t.size - q ∧ run isLetter t q = run isLetter t p ∧ Rd wr b t q o ∧ Wk b w wr)
  case atStart => exact ⟨p, Nat.le_refl _, hp, rfl, rfl, H0.out, Wk.refl _ _⟩
  case round =>
    obtain ⟨q, hpq, hq, hk, he, hR, hW⟩ := hrel
    clear c0 c1 c2 f0 f1 f2 hb
    have HR : Hid (Rd wr b t q o) := hR
    have HE : Hid (run isLetter t q = run isLetter t p) := he
    have HK : Hid (gk = t.size - q) := hk
    obtain ⟨c0, c1, c2, f0, f1, f2, hb, -, -, -⟩ := hR
    clear he hk
    by_cases hlt : q < t.size
    · have hg := Jv.get_eq t q hlt
      by_cases hf : isLetter (t.get! q) = true
      · have HS := Jv.run_step isLetter t q hlt hf
        have HS' : Hid (run isLetter t q = run isLetter t (q + 1)) := HS
        clear HS
        go_wp2
        go_quiet ((go_at_call 103; exact Calls.quiet_of_same (Tryz.isLetter_any _ _)))
        go_wp2
        go_roundg (t.size - (q + 1))
        case measure => have := HK.out; omega
        case rel => exact ⟨q + 1, by omega, by omega, rfl, HS'.out.symm.trans HE.out, HR.out.atN _ _ _ (by omega) hlt, (hW.drewN _).setCell _ _ _⟩
      · have hf' : isLetter (t.get! q) = false := by simpa using hf
        have HS : Hid (run isLetter t q = q) := Jv.run_stop isLetter t q (fun _ => hf')
        clear hf
        go_wp2
        go_quiet ((go_at_call 103; exact Calls.quiet_of_same (Tryz.isLetter_any _ _)))
        go_wp2
        go_quiet (fail)
        go_wp2
        go_ret
        have e : run isLetter t p = q := HE.out.symm.trans HS.out
        rw [e]
        exact ⟨rfl, by simpa using HR.out.drewN _, by simpa using hW.drewN _⟩
    · have HS : Hid (run isLetter t q = q) := Jv.run_stop isLetter t q (fun h => absurd h hlt)
      obtain rfl : q = t.size := by omega
      go_wp2
      go_quiet (fail)
      go_wp2
      go_quiet (fail)
      go_wp2
      go_ret
      have e : run isLetter t p = t.size := HE.out.symm.trans HS.out
      rw [e]
      exact ⟨rfl, by simpa using HR.out.drewN _, by simpa using hW.drewN _⟩
set_option maxHeartbeats 1000000 in
theorem Tryz.run_isOfNumber {w : World} {b : Nat} {t : ByteArray} {p o : Nat} (h : Rd w b t p o) :
    Calls Tryz.prog 100 #[.pointer (some ⟨b, 0, none⟩), .func (.func 120) #[] #[]] w fun en w' =>
      en = .returned (.string (sub t p (run isOfNumber t p))) ∧ Rd w' b t (run isOfNumber t p) o ∧ Wk b w w' := by
  have H0 : Hid (Rd w b t p o) := h
  obtain ⟨c0, c1, c2, f0, f1, f2, hb, hp, ht, ho⟩ := h
  go_enter Tryz.func100, Tryz.ntmps100
  go_wp2
  go_loopg [] (t.size - p) (fun k wr => ∃ q : Nat, p ≤ q ∧ q ≤ t.size ∧ k = t.size - q ∧ run isOfNumber t q = run isOfNumber t p ∧ Rd wr b t q o ∧ Wk b w wr)
  case atStart => exact ⟨p, Nat.le_refl _, hp, rfl, rfl, H0.out, Wk.refl _ _⟩
  case round =>
    obtain ⟨q, hpq, hq, hk, he, hR, hW⟩ := hrel
    clear c0 c1 c2 f0 f1 f2 hb
    have HR : Hid (Rd wr b t q o) := hR
    have HE : Hid (run isOfNumber t q = run isOfNumber t p) := he
    have HK : Hid (gk = t.size - q) := hk
    obtain ⟨c0, c1, c2, f0, f1, f2, hb, -, -, -⟩ := hR
    clear he hk
    by_cases hlt : q < t.size
    · have hg := Jv.get_eq t q hlt
      by_cases hf : isOfNumber (t.get! q) = true
      · have HS := Jv.run_step isOfNumber t q hlt hf
        have HS' : Hid (run isOfNumber t q = run isOfNumber t (q + 1)) := HS
        clear HS
        go_wp2
        go_quiet ((go_at_call 120; exact Calls.quiet_of_same (Tryz.isOfNumber_any _ _)))
        go_wp2
        go_roundg (t.size - (q + 1))
        case measure => have := HK.out; omega
        case rel => exact ⟨q + 1, by omega, by omega, rfl, HS'.out.symm.trans HE.out, HR.out.atN _ _ _ (by omega) hlt, (hW.drewN _).setCell _ _ _⟩
      · have hf' : isOfNumber (t.get! q) = false := by simpa using hf
        have HS : Hid (run isOfNumber t q = q) := Jv.run_stop isOfNumber t q (fun _ => hf')
        clear hf
        go_wp2
        go_quiet ((go_at_call 120; exact Calls.quiet_of_same (Tryz.isOfNumber_any _ _)))
        go_wp2
        go_quiet (fail)
        go_wp2
        go_ret
        have e : run isOfNumber t p = q := HE.out.symm.trans HS.out
        rw [e]
        exact ⟨rfl, by simpa using HR.out.drewN _, by simpa using hW.drewN _⟩
    · have HS : Hid (run isOfNumber t q = q) := Jv.run_stop isOfNumber t q (fun h => absurd h hlt)
      obtain rfl : q = t.size := by omega
      go_wp2
      go_quiet (fail)
      go_wp2
      go_quiet (fail)
      go_wp2
      go_ret
      have e : run isOfNumber t p = t.size := HE.out.symm.trans HS.out
      rw [e]
      exact ⟨rfl, by simpa using HR.out.drewN _, by simpa using hW.drewN _⟩
theorem Tryz.blanks_any {w : World} {b : Nat} {t : ByteArray} {p o : Nat} (h : Rd w b t p o) :
    Calls Tryz.prog 76 #[.pointer (some ⟨b, 0, none⟩)] w fun en w' => en = .returned (.tuple #[]) ∧ Rd w' b t (blanks t p) o ∧ Wk b w w' := by
  go_enter Tryz.func76, Tryz.ntmps76
  go_wp2_with (go_at_call 100; refine (Tryz.run_isBlank h).mono ?_; rintro e w' ⟨rfl, hR, hW⟩)
  go_end0
  exact ⟨rfl, hR, hW⟩
end Go.Proofs
namespace Go.Proofs
open Go.RowKit Go.Jv
theorem Jv.ret_int {k : IntKind} {a b : Int} (h : a = b) : Ending.returned (.int k a) = .returned (.int k b) := by rw [h]
theorem Tryz.hex_some (c : UInt8) (d : Nat) (h : hexOf c = some d) (w : World) :
    Calls Tryz.prog 182 #[.int .u8 c.toNat] w fun en w' => en = .returned (.int .i32 d) ∧ w' = w := by
  unfold hexOf at h
  have hb := Tryz.isDigit_any c
  have hlt := c.toNat_lt
  split at h
  · next hc =>
    obtain ⟨h1, h2⟩ := hc
    obtain rfl := Option.some.inj h
    have e : isDigit c = true := by simp [isDigit]; omega
    rw [e] at hb
    go_enter Tryz.func182, Tryz.ntmps182
    go_wp2_with (go_at_call 105; refine (hb _).mono ?_; rintro e w' ⟨rfl, rfl⟩)
    all_goals (go_ret; exact ⟨Jv.ret_int (by omega), rfl⟩)
  · next hc =>
    have e : isDigit c = false := by simp [isDigit]; omega
    rw [e] at hb
    split at h
    · next hc2 =>
      obtain ⟨h1, h2⟩ := hc2
      obtain rfl := Option.some.inj h
      go_enter Tryz.func182, Tryz.ntmps182
      go_wp2_with (go_at_call 105; refine (hb _).mono ?_; rintro e w' ⟨rfl, rfl⟩)
      all_goals (go_ret; exact ⟨Jv.ret_int (by omega), rfl⟩)
    · next hc2 =>
      split at h
      · next hc3 =>
        obtain ⟨h1, h2⟩ := hc3
        obtain rfl := Option.some.inj h
        go_enter Tryz.func182, Tryz.ntmps182
        go_wp2_with (go_at_call 105; refine (hb _).mono ?_; rintro e w' ⟨rfl, rfl⟩)
        all_goals (go_ret; exact ⟨Jv.ret_int (by omega), rfl⟩)
      · cases h
theorem Tryz.hex_none (c : UInt8) (h : hexOf c = none) (w : World) :
    Calls Tryz.prog 182 #[.int .u8 c.toNat] w fun en w' => en = .returned (.int .i32 (-1)) ∧ w' = w := by
  unfold hexOf at h
  have hb := Tryz.isDigit_any c
  split at h
  · cases h
  · next hc =>
    split at h
    · cases h
    · next hc2 =>
      split at h
      · cases h
      · next hc3 =>
        have e : isDigit c = false := by simp [isDigit]; omega
        rw [e] at hb
        clear hc h
        go_enter Tryz.func182, Tryz.ntmps182
        go_wp2_with (go_at_call 105; refine (hb _).mono ?_; rintro e w' ⟨rfl, rfl⟩)
        all_goals first | (go_ret; exact ⟨rfl, rfl⟩) | (exfalso; omega)
def Jv.hexV (c : UInt8) : Int := match hexOf c with | some d => d | none => -1
theorem Jv.hexOf_lt (c : UInt8) (d : Nat) (h : hexOf c = some d) : d < 16 := by
  unfold hexOf at h
  split at h
  · have := Option.some.inj h; omega
  · split at h
    · have := Option.some.inj h; omega
    · split at h
      · have := Option.some.inj h; omega
      · cases h
theorem Tryz.hex_any (c : UInt8) (w : World) : Calls Tryz.prog 182 #[.int .u8 c.toNat] w fun en w' => en = .returned (.int .i32 (Jv.hexV c)) ∧ w' = w := by
  unfold Jv.hexV
  cases h : hexOf c with
  | none => exact Tryz.hex_none c h w
  | some d => exact Tryz.hex_some c d h w
theorem Jv.unitFrom_end (t : ByteArray) (fr k p n : Nat) (h : ¬ p < t.size) : unitFrom t fr (k + 1) p n = .bad p eSyntax := by
  rw [unitFrom, if_neg h]
theorem Jv.unit_step0 (t : ByteArray) (fr p n : Nat) (h : p < t.size) (hc : t.get! p = 92) : unitFrom t fr 6 p n = unitFrom t fr 5 (p + 1) n := by
  rw [unitFrom, if_pos h, if_pos rfl, if_pos hc]
theorem Jv.unit_bad0 (t : ByteArray) (fr p n : Nat) (h : p < t.size) (hc : ¬ t.get! p = 92) : unitFrom t fr 6 p n = .bad fr eSyntax := by
  rw [unitFrom, if_pos h, if_pos rfl, if_neg hc]
theorem Jv.unit_step1 (t : ByteArray) (fr p n : Nat) (h : p < t.size) (hc : t.get! p = 117) : unitFrom t fr 5 p n = unitFrom t fr 4 (p + 1) n := by
  rw [unitFrom, if_pos h, if_neg (by decide), if_pos rfl, if_pos hc]
theorem Jv.unit_bad1 (t : ByteArray) (fr p n : Nat) (h : p < t.size) (hc : ¬ t.get! p = 117) : unitFrom t fr 5 p n = .bad fr eSyntax := by
  rw [unitFrom, if_pos h, if_neg (by decide), if_pos rfl, if_neg hc]
theorem Jv.unit_stepH (t : ByteArray) (fr k p n d : Nat) (hk : k < 4) (h : p < t.size) (hc : hexOf (t.get! p) = some d) : unitFrom t fr (k + 1) p n = unitFrom t fr k (p + 1) (16 * n + d) := by
  rw [unitFrom, if_pos h, if_neg (by omega), if_neg (by omega), hc]
theorem Jv.unit_badH (t : ByteArray) (fr k p n : Nat) (hk : k < 4) (h : p < t.size) (hc : hexOf (t.get! p) = none) : unitFrom t fr (k + 1) p n = .bad fr eSyntax := by
  rw [unitFrom, if_pos h, if_neg (by omega), if_neg (by omega), hc]
set_option maxHeartbeats 2000000 in
theorem Tryz.unit_any {w : World} {b : Nat} {t : ByteArray} {p o : Nat} (h : Rd w b t p o) (fr : Nat) (_hfr : fr ≤ 4096) :
    Calls Tryz.prog 157 #[.pointer (some ⟨b, 0, none⟩), .int .i64 fr] w fun en w' =>
      (∃ n, unit t fr p = .ok n ∧ en = .returned (.int .i32 n) ∧ n < 65536 ∧ Rd w' b t (p + 6) o ∧ Wk b w w') ∨ (∃ p' e, unit t fr p = .bad p' e ∧ Bad 88 p' e en w' ∧ Wk b w w') := by
  have H0 : Hid (Rd w b t p o) := h
  obtain ⟨-, -, -, -, -, -, hb0, hp, ht, ho⟩ := h
  go_enter Tryz.func157, Tryz.ntmps157
  go_wp2
  go_loopw [5, 9] (fun x y wr => ∃ k n : Nat, k ≤ 6 ∧ x = .int .i32 n ∧ y = .int .i64 k ∧ n < 16 ^ (k - 2) ∧ unitFrom t fr (6 - k) (p + k) n = unit t fr p ∧ Rd wr b t (p + k) o ∧ Wk b w wr) (fun _ y _ => 6 - (intOf y).toNat)
  case atStart => exact ⟨0, 0, by omega, rfl, rfl, by decide, rfl, H0.out, Wk.refl _ _⟩
  case round =>
    obtain ⟨k, n, hk, rfl, rfl, hn, he, hR, hW⟩ := hrel
    have HE : Hid (unitFrom t fr (6 - k) (p + k) n = unit t fr p) := he
    have HN : Hid (n < 16 ^ (k - 2)) := hn
    clear he hn
    have hn : n < 65536 := Nat.lt_of_lt_of_le HN.out (show 16 ^ (k - 2) ≤ 16 ^ 4 from Nat.pow_le_pow_right (by decide) (by omega))
    by_cases hk6 : k < 6
    · by_cases hlt : p + k < t.size
      · have hnx := Tryz.next_ok hR hlt
        have HR : Hid (Rd wr b t (p + k) o) := hR
        obtain ⟨c0, c1, c2, f0, f1, f2, hb, -, -, -⟩ := hR
        by_cases hk0 : k = 0
        · subst hk0
          by_cases hcc : t.get! (p + 0) = 92
          · have hx : ∀ w, Calls Tryz.prog 182 #[.int .u8 92] w fun en w' => en = .returned (.int .i32 (Jv.hexV 92)) ∧ w' = w := Tryz.hex_any 92
            have HC : Hid (t.get! (p + 0) = 92) := hcc
            rw [hcc] at hnx
            have hnx' : Calls Tryz.prog 102 #[.pointer (some ⟨b, 0, none⟩)] wr fun en w' => en = .returned (.int .u8 92) ∧ ∃ n, w' = wr.drewN n := hnx
            clear hcc hnx
            go_wp2_with (first | (go_at_call 102; refine hnx'.mono ?_; rintro e w' ⟨rfl, m, rfl⟩) | (go_at_call 182; refine (hx _).mono ?_; rintro e w' ⟨rfl, rfl⟩))
            go_roundw
            case rel => exact ⟨1, n, by omega, rfl, rfl, HN.out, (Jv.unit_step0 t fr _ n hlt HC.out).symm.trans HE.out, HR.out.atN _ _ _ (by omega) hlt, (hW.drewN _).setCell _ _ _⟩
            case measure => decide
          · have hcn : ¬ ((t.get! (p + 0)).toNat : Int) = 92 := fun e => hcc (UInt8.toNat_inj.1 (by simpa using (by omega : (t.get! (p + 0)).toNat = 92)))
            have hx := Tryz.hex_any (t.get! (p + 0))
            have HB : Hid (unit t fr p = .bad fr eSyntax) := HE.out.symm.trans (Jv.unit_bad0 t fr _ n hlt hcc)
            clear hcc
            generalize t.get! (p + 0) = c at hnx hx hcn
            go_wp2_with (first | (go_at_call 102; refine hnx.mono ?_; rintro e w' ⟨rfl, m, rfl⟩) | (go_at_call 182; refine (hx _).mono ?_; rintro e w' ⟨rfl, rfl⟩) | (go_at_call 53; refine (Tryz.fault_any _ _ _).mono ?_; rintro e w' ⟨rfl, rfl⟩))
            have hq := Jv.bad_new (T := 88) (U := 100) (n := m) (p := fr) (e := 20) hb
            exact ⟨rfl, Or.inr ⟨fr, _, HB.out, hq.1, hW.trans hq.2⟩⟩
        · by_cases hk1 : k = 1
          · subst hk1
            by_cases hcc : t.get! (p + 1) = 117
            · have hx : ∀ w, Calls Tryz.prog 182 #[.int .u8 117] w fun en w' => en = .returned (.int .i32 (Jv.hexV 117)) ∧ w' = w := Tryz.hex_any 117
              have HC : Hid (t.get! (p + 1) = 117) := hcc
              rw [hcc] at hnx
              have hnx' : Calls Tryz.prog 102 #[.pointer (some ⟨b, 0, none⟩)] wr fun en w' => en = .returned (.int .u8 117) ∧ ∃ n, w' = wr.drewN n := hnx
              clear hcc hnx
              go_wp2_with (first | (go_at_call 102; refine hnx'.mono ?_; rintro e w' ⟨rfl, m, rfl⟩) | (go_at_call 182; refine (hx _).mono ?_; rintro e w' ⟨rfl, rfl⟩))
              go_roundw
              case rel => exact ⟨2, n, by omega, rfl, rfl, HN.out, (Jv.unit_step1 t fr _ n hlt HC.out).symm.trans HE.out, HR.out.atN _ _ _ (by omega) hlt, (hW.drewN _).setCell _ _ _⟩
              case measure => decide
            · have hcn : ¬ ((t.get! (p + 1)).toNat : Int) = 117 := fun e => hcc (UInt8.toNat_inj.1 (by simpa using (by omega : (t.get! (p + 1)).toNat = 117)))
              have hx := Tryz.hex_any (t.get! (p + 1))
              have HB : Hid (unit t fr p = .bad fr eSyntax) := HE.out.symm.trans (Jv.unit_bad1 t fr _ n hlt hcc)
              clear hcc
              generalize t.get! (p + 1) = c at hnx hx hcn
              go_wp2_with (first | (go_at_call 102; refine hnx.mono ?_; rintro e w' ⟨rfl, m, rfl⟩) | (go_at_call 182; refine (hx _).mono ?_; rintro e w' ⟨rfl, rfl⟩) | (go_at_call 53; refine (Tryz.fault_any _ _ _).mono ?_; rintro e w' ⟨rfl, rfl⟩))
              have hq := Jv.bad_new (T := 88) (U := 100) (n := m) (p := fr) (e := 20) hb
              exact ⟨rfl, Or.inr ⟨fr, _, HB.out, hq.1, hW.trans hq.2⟩⟩
          · have hk2 : 2 ≤ k := by omega
            obtain ⟨j, hj⟩ : ∃ j, 6 - k = j + 1 := ⟨5 - k, by omega⟩
            cases hx : hexOf (t.get! (p + k)) with
            | none =>
              have HB : Hid (unit t fr p = .bad fr eSyntax) := HE.out.symm.trans (by rw [hj]; exact Jv.unit_badH t fr j _ n (by omega) hlt hx)
              have hh := Tryz.hex_none _ hx
              clear hx hj
              generalize t.get! (p + k) = c at hnx hh
              go_wp2_with (first | (go_at_call 102; refine hnx.mono ?_; rintro e w' ⟨rfl, m, rfl⟩) | (go_at_call 182; refine (hh _).mono ?_; rintro e w' ⟨rfl, rfl⟩) | (go_at_call 53; refine (Tryz.fault_any _ _ _).mono ?_; rintro e w' ⟨rfl, rfl⟩))
              have hq := Jv.bad_new (T := 88) (U := 100) (n := m) (p := fr) (e := 20) hb
              exact ⟨rfl, Or.inr ⟨fr, _, HB.out, hq.1, hW.trans hq.2⟩⟩
            | some d =>
              have HB : Hid (unitFrom t fr j (p + k + 1) (16 * n + d) = unit t fr p) := (by rw [← Jv.unit_stepH t fr j (p + k) n d (by omega) hlt hx, ← hj]; exact HE.out)
              have hd := Jv.hexOf_lt _ _ hx
              have hh := Tryz.hex_some _ d hx
              have HJ : Hid (6 - k = j + 1) := hj
              clear hx hj
              generalize t.get! (p + k) = c at hnx hh
              go_wp2_with (first | (go_at_call 102; refine hnx.mono ?_; rintro e w' ⟨rfl, m, rfl⟩) | (go_at_call 182; refine (hh _).mono ?_; rintro e w' ⟨rfl, rfl⟩) | (go_at_call 53; refine (Tryz.fault_any _ _ _).mono ?_; rintro e w' ⟨rfl, rfl⟩))
              go_roundw
              case rel =>
                refine ⟨k + 1, 16 * n + d, by omega, by rw [show ((n : Int) * 16 + d) = ((16 * n + d : Nat) : Int) from by omega], by go_num, ?_, ?_, HR.out.atN _ _ _ (by omega) (by omega), (hW.drewN _).setCell _ _ _⟩
                · have h1 := HN.out
                  rw [show k + 1 - 2 = (k - 2) + 1 from by omega, Nat.pow_succ]
                  omega
                · have h1 := HB.out
                  have h2 := HJ.out
                  rw [show 6 - (k + 1) = j from by omega]
                  exact h1
              case measure => simp [intOf]; omega
      · have hs : p + k = t.size := by have := hR.hp; omega
        have hR' : Rd wr b t t.size o := hs ▸ hR
        have hnx := Tryz.next_bad hR'
        have HB : Hid (unit t fr p = .bad t.size eSyntax) := by
          obtain ⟨j, hj⟩ : ∃ j, 6 - k = j + 1 := ⟨5 - k, by omega⟩
          have h1 := HE.out
          rw [hj, Jv.unitFrom_end t fr j _ n hlt, hs] at h1
          exact h1.symm
        clear hs hR hR'
        go_wp2_with (go_at_call 102; refine hnx.mono ?_; rintro e w' ⟨⟨x, hx, rfl, hx0, hx1⟩, hk⟩)
        exact ⟨rfl, Or.inr ⟨_, _, HB.out, ⟨x, hx, rfl, hx0, hx1⟩, hW.trans hk⟩⟩
    · obtain rfl : k = 6 := by omega
      go_wp2
      go_ret
      refine Or.inl ⟨n, HE.out.symm.trans rfl, rfl, hn, hR, hW⟩
end Go.Proofs
