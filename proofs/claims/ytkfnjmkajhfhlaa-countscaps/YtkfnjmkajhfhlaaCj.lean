/-
  Names of events: number, event.
-/
import Derived.Test.YtkfnjmkajhfhlaaCi
namespace Go.Ct
def dig (n : Nat) : List UInt8 := if n < 10 then [UInt8.ofNat (48 + n)] else dig (n / 10) ++ [UInt8.ofNat (48 + n % 10)]
termination_by n
decreasing_by omega
def valD (l : List UInt8) : Nat := l.foldl (fun a c => a * 10 + (c.toNat - 48)) 0
theorem valD_app (l : List UInt8) (c : UInt8) : valD (l ++ [c]) = valD l * 10 + (c.toNat - 48) := by simp [valD]
theorem digit_toNat {d : Nat} (h : d < 10) : (UInt8.ofNat (48 + d)).toNat = 48 + d := by
  rw [UInt8.toNat_ofNat']; omega
theorem valD_dig (n : Nat) : valD (dig n) = n := by
  induction n using Nat.strongRecOn with
  | _ n ih =>
    rw [dig]
    split
    · rename_i h
      simp only [valD, List.foldl_cons, List.foldl_nil]
      rw [digit_toNat h]; omega
    · rename_i h
      rw [valD_app, ih (n / 10) (by omega), digit_toNat (by omega)]
      omega
theorem dig_len (n : Nat) : (dig n).length ≤ n + 1 ∧ 1 ≤ (dig n).length := by
  induction n using Nat.strongRecOn with
  | _ n ih =>
    rw [dig]
    split
    · simp
    · have := ih (n / 10) (by omega)
      simp
      omega
def num (n : Nat) : ByteArray := ⟨(dig n).toArray⟩
def evt (n : Nat) : ByteArray := ⟨(36 :: dig n).toArray⟩
theorem evt_inj {i j : Nat} (h : evt i = evt j) : i = j := by
  unfold evt at h
  injection h with h
  have h1 := congrArg Array.toList h
  simp at h1
  rw [← valD_dig i, ← valD_dig j, h1]
theorem evt_size (n : Nat) : (evt n).size ≤ n + 2 := by
  have := (dig_len n).1
  show (36 :: dig n).toArray.size ≤ n + 2
  simp; omega
/-- What is left of the digits ahead. -/
def hd (m : Nat) : List UInt8 := if m = 0 then [] else dig m
theorem hd_step {m : Nat} (h : m ≠ 0) : hd m = hd (m / 10) ++ [UInt8.ofNat (48 + m % 10)] := by
  unfold hd
  rw [if_neg h, dig]
  split
  · rename_i h1
    rw [if_pos (by omega), Nat.mod_eq_of_lt h1]; rfl
  · rw [if_neg (by omega)]
theorem dig_step (n : Nat) : dig n = hd (n / 10) ++ [UInt8.ofNat (48 + n % 10)] := by
  by_cases h : n = 0
  · subst h
    rw [dig]; rfl
  · have := hd_step h
    rw [← this, hd, if_neg h]
theorem cutD {d : Nat} (h : d < 10) : (⟨#[48, 49, 50, 51, 52, 53, 54, 55, 56, 57]⟩ : ByteArray).extract d (d + 1) = ⟨#[UInt8.ofNat (48 + d)]⟩ := by
  rcases (show d = 0 ∨ d = 1 ∨ d = 2 ∨ d = 3 ∨ d = 4 ∨ d = 5 ∨ d = 6 ∨ d = 7 ∨ d = 8 ∨ d = 9 by omega) with rfl | rfl | rfl | rfl | rfl | rfl | rfl | rfl | rfl | rfl <;> rfl
end Go.Ct
namespace Go.Proofs
open Go.RowKit Go.Wi Go.Ct
set_option maxHeartbeats 1000000 in
set_option maxRecDepth 20000 in
theorem Try.number_any (n : Nat) (hn : n ≤ 100000) (w : World) :
    Calls Try.prog 21 #[.int .i64 n] w fun z w' => z = .returned (.string (num n)) ∧ w' = w := by
  have hc := @cutD (n % 10) (by omega)
  have HC : Hid _ := hc
  clear hc
  go_enter Try.func21, Try.ntmps21
  go_wp2
  go_loopw [0, 3] (fun mv sv wr => ∃ (m : Nat) (l : List UInt8), mv = .int .i64 m ∧ m ≤ n ∧ sv = .string ⟨l.toArray⟩ ∧ dig n = hd m ++ l ∧ wr = w) (fun mv _ _ => (intOf mv).toNat)
  case atStart =>
    refine ⟨n / 10, [UInt8.ofNat (48 + n % 10)], by first | rfl | (congr 1), by omega, ?_, dig_step n, rfl⟩
    have := HC.out
    first | (congr 1) | (rw [← this]; congr 1)
  case round =>
    obtain ⟨m, l, rfl, hmn, rfl, hdl, rfl⟩ := hrel
    have hll : l.length ≤ n + 1 := by
      have := (dig_len n).1
      rw [hdl] at this
      simp at this
      omega
    have HDL : Hid _ := hdl
    clear HC hdl
    by_cases hm : m = 0
    · subst hm
      go_wp2
      go_ret
      refine ⟨?_, rfl⟩
      unfold num
      rw [HDL.out]
      rfl
    · have hc := @cutD (m % 10) (by omega)
      have HC : Hid _ := hc
      have hsz : (⟨l.toArray⟩ : ByteArray).size ≤ 100001 := by show l.toArray.size ≤ _; simp; omega
      have q1 : (0 : Int) < (m : Int) := by omega
      clear hc
      go_wp2
      go_roundw
      case rel =>
        refine ⟨m / 10, UInt8.ofNat (48 + m % 10) :: l, by rfl, by omega, ?_, ?_, trivial⟩
        · rw [HC.out]
          congr 1
        · rw [HDL.out, hd_step hm]; simp
      case measure => simp [intOf]; omega
set_option maxHeartbeats 1000000 in
set_option maxRecDepth 20000 in
theorem Try.evt_any (n : Nat) (hn : n ≤ 100000) (w : World) :
    Calls Try.prog 12 #[.int .i64 n] w fun z w' => z = .returned (.string (evt n)) ∧ w' = w := by
  have hnu := Try.number_any n hn w
  have hsz : (num n).size ≤ 100001 := by
    have := (dig_len n).1
    show (dig n).toArray.size ≤ _
    simp; omega
  have he : (⟨#[36]⟩ : ByteArray) ++ num n = evt n := by
    apply ByteArray.ext
    rw [ByteArray.data_append]
    simp [num, evt]
  have HE : Hid _ := he
  clear he
  go_enter Try.func12, Try.ntmps12
  go_wp2_with (first
    | (go_at_call 21; refine hnu.mono ?_; clear hnu; rintro z w2 ⟨rfl, rfl⟩)
    | fail)
  go_ret
  exact ⟨by rw [← HE.out]; rfl, rfl⟩
end Go.Proofs
