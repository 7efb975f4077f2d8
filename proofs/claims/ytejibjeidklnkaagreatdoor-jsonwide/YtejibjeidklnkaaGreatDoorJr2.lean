/-
  THE READER's 'run', over each of the three kinds of bytes; 'blanks'.
-/
import Derived.Test.YtejibjeidklnkaaGreatDoorJr1
import Derived.Deep.LoopGhost
namespace Go.Proofs
open Go.RowKit Go.Jv
theorem Jv.runTo_le (f : UInt8 → Bool) (t : ByteArray) : ∀ (n p : Nat), p ≤ t.size → p ≤ runTo f t n p ∧ runTo f t n p ≤ t.size
  | 0, p, h => ⟨Nat.le_refl _, h⟩
  | n + 1, p, h => by
    rw [runTo]
    split
    · next hc => have := Jv.runTo_le f t n (p + 1) hc.1; omega
    · exact ⟨Nat.le_refl _, h⟩
theorem Jv.run_le (f : UInt8 → Bool) (t : ByteArray) (p : Nat) (h : p ≤ t.size) : p ≤ run f t p ∧ run f t p ≤ t.size := Jv.runTo_le f t _ p h
theorem Jv.run_step (f : UInt8 → Bool) (t : ByteArray) (p : Nat) (h : p < t.size) (hf : f (t.get! p) = true) : run f t p = run f t (p + 1) := by
  unfold run
  rw [show t.size - p = (t.size - (p + 1)) + 1 by omega, runTo, if_pos ⟨h, hf⟩]
theorem Jv.run_stop (f : UInt8 → Bool) (t : ByteArray) (p : Nat) (hf : p < t.size → f (t.get! p) = false) : run f t p = p := by
  unfold run
  cases hn : t.size - p with
  | zero => rfl
  | succ n => rw [runTo, if_neg (fun hc => by have := hf hc.1; rw [this] at hc; exact absurd hc.2 (by simp))]
theorem Jv.ofNumber_idx (c : UInt8) : (0 ≤ Lib.indexByte [43, 45, 46, 101, 69] c) ↔ (c.toNat = 43 ∨ c.toNat = 45 ∨ c.toNat = 46 ∨ c.toNat = 101 ∨ c.toNat = 69) := by
  have h : ∀ n : Fin 256, (0 ≤ Lib.indexByte [43, 45, 46, 101, 69] (UInt8.ofNat n)) ↔ ((n : Nat) = 43 ∨ (n : Nat) = 45 ∨ (n : Nat) = 46 ∨ (n : Nat) = 101 ∨ (n : Nat) = 69) := by decide +kernel
  have := h ⟨c.toNat, c.toNat_lt⟩
  simpa using this
theorem Tryz.isOfNumber_any (c : UInt8) (w : World) : Calls Tryz.prog 37 #[.int .u8 c.toNat] w fun en w' => en = .returned (.bool (isOfNumber c)) ∧ w' = w := by
  have hi := Jv.ofNumber_idx c
  have HI : Hid (0 ≤ Lib.indexByte [43, 45, 46, 101, 69] c ↔ (c.toNat = 43 ∨ c.toNat = 45 ∨ c.toNat = 46 ∨ c.toNat = 101 ∨ c.toNat = 69)) := hi
  clear hi
  by_cases hd : isDigit c = true
  · go_enter Tryz.func37, Tryz.ntmps37
    go_wp2_with (go_at_call 28; refine (Tryz.isDigit_any _ _).mono ?_; rintro e w' ⟨rfl, rfl⟩)
    go_ret
    refine ⟨Jv.ret_bool ?_, rfl⟩
    have := hd
    simp [isDigit] at this
    simp [isOfNumber, this]
  · have hd' : isDigit c = false := by simpa using hd
    clear hd
    go_enter Tryz.func37, Tryz.ntmps37
    go_wp2_with (first | (go_at_call 28; refine (Tryz.isDigit_any _ _).mono ?_; rintro e w' ⟨rfl, rfl⟩) | (go_at_call 52; refine (Tryz.strings_IndexByte _ _ _).mono ?_; rintro e w' ⟨rfl, rfl⟩))
    go_ret
    refine ⟨Jv.ret_bool ?_, rfl⟩
    have h2 := HI.out
    rw [Bool.eq_iff_iff]
    simp [isDigit] at hd'
    simp [isOfNumber]
    rw [h2]
    omega
set_option maxHeartbeats 1000000 in
theorem Tryz.run_isBlank {w : World} {b : Nat} {t : ByteArray} {p o : Nat} (h : Rd w b t p o) :
    Calls Tryz.prog 23 #[.pointer (some ⟨b, 0, none⟩), .func (.func 24) #[] #[]] w fun en w' =>
      en = .returned (.string (sub t p (run isBlank t p))) ∧ Rd w' b t (run isBlank t p) o ∧ Wk b w w' := by
  have H0 : Hid (Rd w b t p o) := h
  obtain ⟨c0, c1, c2, f0, f1, f2, hb, hp, ht, ho⟩ := h
  go_enter Tryz.func23, Tryz.ntmps23
  go_wp2
  go_loopg [] (t.size - p) (fun k wr => ∃ q : Nat, p ≤ q ∧ q ≤ t.size ∧ k = t.size - q ∧ run isBlank t q = run isBlank t p ∧ Rd wr b t q o ∧ Wk b w wr)
  case atStart => exact ⟨p, Nat.le_refl _, hp, rfl, rfl, H0.out, Wk.refl _ _⟩
  case round =>
    obtain ⟨q, hpq, hq, hk, he, hR, hW⟩ := hrel
    clear c0 c1 c2 f0 f1 f2 hb
    have HR : Hid (Rd wr b t q o) := hR
    have HE : Hid (run isBlank t q = run isBlank t p) := he
    have HK : Hid (gk = t.size - q) := hk
    obtain ⟨c0, c1, c2, f0, f1, f2, hb, -, -, -⟩ := hR
    clear he hk
    by_cases hlt : q < t.size
    · have hg := Jv.get_eq t q hlt
      by_cases hf : isBlank (t.get! q) = true
      · have HS := Jv.run_step isBlank t q hlt hf
        have HS' : Hid (run isBlank t q = run isBlank t (q + 1)) := HS
        clear HS
        go_wp2
        go_quiet ((go_at_call 24; exact Calls.quiet_of_same (Tryz.isBlank_any _ _)))
        go_wp2
        go_roundg (t.size - (q + 1))
        case measure => have := HK.out; omega
        case rel => exact ⟨q + 1, by omega, by omega, rfl, HS'.out.symm.trans HE.out, HR.out.atN _ _ _ (by omega) hlt, (hW.drewN _).setCell _ _ _⟩
      · have hf' : isBlank (t.get! q) = false := by simpa using hf
        have HS : Hid (run isBlank t q = q) := Jv.run_stop isBlank t q (fun _ => hf')
        clear hf
        go_wp2
        go_quiet ((go_at_call 24; exact Calls.quiet_of_same (Tryz.isBlank_any _ _)))
        go_wp2
        go_quiet (fail)
        go_wp2
        go_ret
        have e : run isBlank t p = q := HE.out.symm.trans HS.out
        rw [e]
        exact ⟨rfl, by simpa using HR.out.drewN _, by simpa using hW.drewN _⟩
    · have HS : Hid (run isBlank t q = q) := Jv.run_stop isBlank t q (fun h => absurd h hlt)
      obtain rfl : q = t.size := by omega
      go_wp2
      go_quiet (fail)
      go_wp2
      go_quiet (fail)
      go_wp2
      go_ret
      have e : run isBlank t p = t.size := HE.out.symm.trans HS.out
      rw [e]
      exact ⟨rfl, by simpa using HR.out.drewN _, by simpa using hW.drewN _⟩
set_option maxHeartbeats 1000000 in
theorem Tryz.run_isLetter {w : World} {b : Nat} {t : ByteArray} {p o : Nat} (h : Rd w b t p o) :
    Calls Tryz.prog 23 #[.pointer (some ⟨b, 0, none⟩), .func (.func 26) #[] #[]] w fun en w' =>
      en = .returned (.string (sub t p (run isLetter t p))) ∧ Rd w' b t (run isLetter t p) o ∧ Wk b w w' := by
  have H0 : Hid (Rd w b t p o) := h
  obtain ⟨c0, c1, c2, f0, f1, f2, hb, hp, ht, ho⟩ := h
  go_enter Tryz.func23, Tryz.ntmps23
  go_wp2
  go_loopg [] (t.size - p) (fun k wr => ∃ q : Nat, p ≤ q ∧ q ≤ t.size ∧ k = t.size - q ∧ run isLetter t q = run isLetter t p ∧ Rd wr b t q o ∧ Wk b w wr)
  case atStart => exact ⟨p, Nat.le_refl _, hp, rfl, rfl, H0.out, Wk.refl _ _⟩
  case round =>
    obtain ⟨q, hpq, hq, hk, he, hR, hW⟩ := hrel
    clear c0 c1 c2 f0 f1 f2 hb
    have HR : Hid (Rd wr b t q o) := hR
    have HE : Hid (run isLetter t q = run isLetter t p) := he
    have HK : Hid (gk = t.size - q) := hk
    obtain ⟨c0, c1, c2, f0, f1, f2, hb, -, -, -⟩ := hR
    clear he hk
    by_cases hlt : q < t.size
    · have hg := Jv.get_eq t q hlt
      by_cases hf : isLetter (t.get! q) = true
      · have HS := Jv.run_step isLetter t q hlt hf
        have HS' : Hid (run isLetter t q = run isLetter t (q + 1)) := HS
        clear HS
        go_wp2
        go_quiet ((go_at_call 26; exact Calls.quiet_of_same (Tryz.isLetter_any _ _)))
        go_wp2
        go_roundg (t.size - (q + 1))
        case measure => have := HK.out; omega
        case rel => exact ⟨q + 1, by omega, by omega, rfl, HS'.out.symm.trans HE.out, HR.out.atN _ _ _ (by omega) hlt, (hW.drewN _).setCell _ _ _⟩
      · have hf' : isLetter (t.get! q) = false := by simpa using hf
        have HS : Hid (run isLetter t q = q) := Jv.run_stop isLetter t q (fun _ => hf')
        clear hf
        go_wp2
        go_quiet ((go_at_call 26; exact Calls.quiet_of_same (Tryz.isLetter_any _ _)))
        go_wp2
        go_quiet (fail)
        go_wp2
        go_ret
        have e : run isLetter t p = q := HE.out.symm.trans HS.out
        rw [e]
        exact ⟨rfl, by simpa using HR.out.drewN _, by simpa using hW.drewN _⟩
    · have HS : Hid (run isLetter t q = q) := Jv.run_stop isLetter t q (fun h => absurd h hlt)
      obtain rfl : q = t.size := by omega
      go_wp2
      go_quiet (fail)
      go_wp2
      go_quiet (fail)
      go_wp2
      go_ret
      have e : run isLetter t p = t.size := HE.out.symm.trans HS.out
      rw [e]
      exact ⟨rfl, by simpa using HR.out.drewN _, by simpa using hW.drewN _⟩
set_option maxHeartbeats 1000000 in
theorem Tryz.run_isOfNumber {w : World} {b : Nat} {t : ByteArray} {p o : Nat} (h : Rd w b t p o) :
    Calls Tryz.prog 23 #[.pointer (some ⟨b, 0, none⟩), .func (.func 37) #[] #[]] w fun en w' =>
      en = .returned (.string (sub t p (run isOfNumber t p))) ∧ Rd w' b t (run isOfNumber t p) o ∧ Wk b w w' := by
  have H0 : Hid (Rd w b t p o) := h
  obtain ⟨c0, c1, c2, f0, f1, f2, hb, hp, ht, ho⟩ := h
  go_enter Tryz.func23, Tryz.ntmps23
  go_wp2
  go_loopg [] (t.size - p) (fun k wr => ∃ q : Nat, p ≤ q ∧ q ≤ t.size ∧ k = t.size - q ∧ run isOfNumber t q = run isOfNumber t p ∧ Rd wr b t q o ∧ Wk b w wr)
  case atStart => exact ⟨p, Nat.le_refl _, hp, rfl, rfl, H0.out, Wk.refl _ _⟩
  case round =>
    obtain ⟨q, hpq, hq, hk, he, hR, hW⟩ := hrel
    clear c0 c1 c2 f0 f1 f2 hb
    have HR : Hid (Rd wr b t q o) := hR
    have HE : Hid (run isOfNumber t q = run isOfNumber t p) := he
    have HK : Hid (gk = t.size - q) := hk
    obtain ⟨c0, c1, c2, f0, f1, f2, hb, -, -, -⟩ := hR
    clear he hk
    by_cases hlt : q < t.size
    · have hg := Jv.get_eq t q hlt
      by_cases hf : isOfNumber (t.get! q) = true
      · have HS := Jv.run_step isOfNumber t q hlt hf
        have HS' : Hid (run isOfNumber t q = run isOfNumber t (q + 1)) := HS
        clear HS
        go_wp2
        go_quiet ((go_at_call 37; exact Calls.quiet_of_same (Tryz.isOfNumber_any _ _)))
        go_wp2
        go_roundg (t.size - (q + 1))
        case measure => have := HK.out; omega
        case rel => exact ⟨q + 1, by omega, by omega, rfl, HS'.out.symm.trans HE.out, HR.out.atN _ _ _ (by omega) hlt, (hW.drewN _).setCell _ _ _⟩
      · have hf' : isOfNumber (t.get! q) = false := by simpa using hf
        have HS : Hid (run isOfNumber t q = q) := Jv.run_stop isOfNumber t q (fun _ => hf')
        clear hf
        go_wp2
        go_quiet ((go_at_call 37; exact Calls.quiet_of_same (Tryz.isOfNumber_any _ _)))
        go_wp2
        go_quiet (fail)
        go_wp2
        go_ret
        have e : run isOfNumber t p = q := HE.out.symm.trans HS.out
        rw [e]
        exact ⟨rfl, by simpa using HR.out.drewN _, by simpa using hW.drewN _⟩
    · have HS : Hid (run isOfNumber t q = q) := Jv.run_stop isOfNumber t q (fun h => absurd h hlt)
      obtain rfl : q = t.size := by omega
      go_wp2
      go_quiet (fail)
      go_wp2
      go_quiet (fail)
      go_wp2
      go_ret
      have e : run isOfNumber t p = t.size := HE.out.symm.trans HS.out
      rw [e]
      exact ⟨rfl, by simpa using HR.out.drewN _, by simpa using hW.drewN _⟩
theorem Tryz.blanks_any {w : World} {b : Nat} {t : ByteArray} {p o : Nat} (h : Rd w b t p o) :
    Calls Tryz.prog 16 #[.pointer (some ⟨b, 0, none⟩)] w fun en w' => en = .returned (.tuple #[]) ∧ Rd w' b t (blanks t p) o ∧ Wk b w w' := by
  go_enter Tryz.func16, Tryz.ntmps16
  go_wp2_with (go_at_call 23; refine (Tryz.run_isBlank h).mono ?_; rintro e w' ⟨rfl, hR, hW⟩)
  go_end0
  exact ⟨rfl, hR, hW⟩
end Go.Proofs
