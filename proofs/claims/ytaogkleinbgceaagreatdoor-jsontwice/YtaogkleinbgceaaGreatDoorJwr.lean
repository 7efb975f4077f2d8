/-
  'written', 'Number'.
-/
import Derived.Test.YtaogkleinbgceaaGreatDoorJz
import Derived.Test.YtaogkleinbgceaaGreatDoorJma
namespace Go.Jv
open Go.Lib
/-- The digits of a number, none of 0. -/
def dz (u : Nat) : List UInt8 := if u = 0 then [] else decDigits u
theorem dz_step (u : Nat) (h : u ≠ 0) : dz u = dz (u / 10) ++ [UInt8.ofNat (48 + u % 10)] := by
  unfold dz
  rw [if_neg h]
  by_cases h1 : u < 10
  · rw [decDigits_one h1, if_pos (by omega)]
    have : u % 10 = u := by omega
    rw [this]; rfl
  · rw [decDigits, dif_neg h1, if_neg (by omega)]
theorem dz_len (n : Int) (h0 : -9223372036854775808 ≤ n) (h1 : n ≤ 9223372036854775807) : (dz n.natAbs).length ≤ 21 := by
  have h := itoa_length_le n h0 h1
  unfold itoa at h
  unfold dz
  split
  · simp
  · split at h
    · simp at h; omega
    · have : n.natAbs = n.toNat := by omega
      rw [this]; exact h
theorem itoa_dz (n : Int) : itoa n = if n < 0 then 45 :: dz n.natAbs else if n = 0 then [48] else dz n.natAbs := by
  unfold itoa dz
  split
  · rw [if_neg (by omega)]
  · split
    · subst n; exact decDigits_one (by decide)
    · rw [if_neg (by omega)]
      have : n.natAbs = n.toNat := by omega
      rw [this]
theorem tdec (M : Int) : ∃ d : Nat, d = M.natAbs % 10 ∧ (M.tmod 10 = d ∨ (1 ≤ d ∧ M.tmod 10 = -(d : Int))) ∧ (M.tdiv 10).natAbs = M.natAbs / 10 ∧ (0 ≤ M → 0 ≤ M.tdiv 10) ∧ (M ≤ 0 → M.tdiv 10 ≤ 0) := by
  refine ⟨M.natAbs % 10, rfl, ?_⟩
  rcases Int.natAbs_eq M with h | h
  · generalize M.natAbs = u at h
    subst h
    have h1 : ((u : Int).tmod 10) = ((u % 10 : Nat) : Int) := by rw [Int.tmod_eq_emod_of_nonneg (by omega)]; rfl
    have h2 : ((u : Int).tdiv 10) = ((u / 10 : Nat) : Int) := by rw [Int.tdiv_eq_ediv_of_nonneg (by omega)]; rfl
    rw [h1, h2]
    refine ⟨.inl rfl, ?_, ?_, ?_⟩ <;> omega
  · generalize M.natAbs = u at h
    subst h
    have h1 : ((-(u : Int)).tmod 10) = -((u % 10 : Nat) : Int) := by rw [Int.neg_tmod, Int.tmod_eq_emod_of_nonneg (by omega)]; rfl
    have h2 : ((-(u : Int)).tdiv 10) = -((u / 10 : Nat) : Int) := by rw [Int.neg_tdiv, Int.tdiv_eq_ediv_of_nonneg (by omega)]; rfl
    rw [h1, h2]
    refine ⟨?_, ?_, ?_, ?_⟩
    · by_cases hz : u % 10 = 0
      · left; simp [hz]
      · right; exact ⟨by omega, rfl⟩
    all_goals omega
theorem digs_piece : ∀ d, d < 10 → (⟨#[48, 49, 50, 51, 52, 53, 54, 55, 56, 57]⟩ : ByteArray).extract d (d + 1) = ⟨#[UInt8.ofNat (48 + d)]⟩ := by decide +kernel
end Go.Jv
namespace Go.Proofs
open Go.RowKit Go.Jv
set_option maxHeartbeats 2000000 in
theorem Tryz.written_any (n : Int) (h0 : -9223372036854775808 ≤ n) (h1 : n ≤ 9223372036854775807) (w : World) :
    Calls Tryz.prog 16 #[.int .i64 n] w fun e w' => e = .returned (.string ⟨(Lib.itoa n).toArray⟩) ∧ w' = w := by
  have hl := dz_len n h0 h1
  go_enter Tryz.func16, Tryz.ntmps16
  go_wp2
  go_loopw [3, 4] (fun s m wr => ∃ (S : List UInt8) (M : Int), s = .string ⟨S.toArray⟩ ∧ m = .int .i64 M ∧ dz M.natAbs ++ S = dz n.natAbs ∧ (0 ≤ n → 0 ≤ M) ∧ (n < 0 → M ≤ 0) ∧ M.natAbs ≤ n.natAbs ∧ wr = w) (fun _ m _ => (intOf m).natAbs)
  case atStart => exact ⟨[], n, rfl, rfl, by simp, id, by omega, Nat.le_refl _, rfl⟩
  case round =>
    obtain ⟨S, M, rfl, rfl, hS, hp, hn, hle, rfl⟩ := hrel
    have hSl : S.length ≤ 21 := by rw [← hS] at hl; simp at hl; omega
    by_cases hM : M = 0
    · subst hM
      have hS' : S = dz n.natAbs := by simpa [dz] using hS
      have HI := itoa_dz n
      rw [← hS'] at HI
      have HI' : Hid (Lib.itoa n = if n < 0 then 45 :: S else if n = 0 then [48] else S) := HI
      clear HI hS hS'
      have hno : ¬ (9223372036854775807 < 1 + S.length) := by omega
      rcases Int.lt_trichotomy n 0 with hc | hc | hc
      · go_wp2
        go_ret
        rw [HI'.out, if_pos hc]
        exact ⟨rfl, rfl⟩
      · subst hc
        go_wp2
        go_ret
        rw [HI'.out]
        exact ⟨rfl, rfl⟩
      · have hc1 : ¬ n < 0 := by omega
        have hc2 : ¬ n = 0 := by omega
        have hc3 : (n == 0) = false := by simpa using hc2
        go_wp2
        go_ret
        rw [HI'.out, if_neg (by omega), if_neg hc2]
        exact ⟨rfl, rfl⟩
    · have hM' : (M == 0) = false := by simpa using hM
      obtain ⟨d, hd, ht, hq, hq1, hq2⟩ := tdec M
      have hd9 : d < 10 := by omega
      have hpc := digs_piece d hd9
      have hst := dz_step M.natAbs (by omega)
      rw [← hd] at hst
      have hnew : dz (M.natAbs / 10) ++ (UInt8.ofNat (48 + d) :: S) = dz n.natAbs := by rw [← hS, hst]; simp
      have hw : wrap64 ((d : Int) + 1) = (d : Int) + 1 := by unfold wrap64; omega
      have hwd : wrap64 (d : Int) = d := by unfold wrap64; omega
      have hrelN : ∃ (S' : List UInt8) (M' : Int), Value.string (⟨#[UInt8.ofNat (48 + d)]⟩ ++ ⟨S.toArray⟩) = .string ⟨S'.toArray⟩ ∧ Value.int .i64 (M.tdiv 10) = .int .i64 M' ∧ dz M'.natAbs ++ S' = dz n.natAbs ∧ (0 ≤ n → 0 ≤ M') ∧ (n < 0 → M' ≤ 0) ∧ M'.natAbs ≤ n.natAbs ∧ wr = wr :=
        ⟨UInt8.ofNat (48 + d) :: S, M.tdiv 10, rfl, rfl, by rw [hq]; exact hnew, fun h => hq1 (hp h), fun h => hq2 (hn h), by omega, rfl⟩
      clear hnew hst hd
      have hno : ¬ (9223372036854775807 < 1 + S.length) := by omega
      have hd1 : (0 : Int) ≤ d + 1 ∧ (d : Int) + 1 ≤ 10 := by omega
      have hdd : (0 : Int) ≤ d ∧ (d : Int) ≤ d + 1 := by omega
      have hno' : ¬ (9223372036854775807 < ((d : Int) + 1).toNat - (d : Int).toNat + S.length) := by omega
      have htn : ((d : Int) + 1).toNat = d + 1 := by omega
      generalize UInt8.ofNat (48 + d) = ch at hpc hrelN
      rcases ht with ht | ⟨hd2, ht⟩
      · go_wp2
        exact ⟨by simpa using hrelN, by simp only [intOf, hq]; omega⟩
      · have hlt : (-(d : Int)) < 0 := by omega
        have hnn : - -(d : Int) = d := by omega
        go_wp2
        exact ⟨by simpa using hrelN, by simp only [intOf, hq]; omega⟩
set_option maxHeartbeats 1000000 in
/-- 'Number' of what is there. -/
theorem Tryz.number_of {w : World} {x : Nat} {k : Int} {b : Bool} {n : Int} {s : ByteArray} {kv sv : Value} (h : Jv.Vb w x k b n s kv sv) :
    Calls Tryz.prog 18 #[.pointer (some ⟨x, 0, none⟩)] w fun e w' => e = .returned (.int .i64 n) ∧ w' = w := by
  have hc := h.c2
  go_enter Tryz.func18, Tryz.ntmps18
  go_wp2
  go_ret
  exact ⟨rfl, rfl⟩
end Go.Proofs
