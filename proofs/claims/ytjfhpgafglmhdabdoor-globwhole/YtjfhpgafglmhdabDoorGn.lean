/-
  GLOB: the signs of texts that are put together. Nothing of the program.
-/
import Derived.Test.YtjfhpgafglmhdabDoorGm
import Derived.Test.YtjfhpgafglmhdabDoorMath7
namespace Go.Gl
open Go.Sg
theorem rnFrom_fuel (s : ByteArray) : ∀ f g p, s.size ≤ p + f → s.size ≤ p + g → rnFrom s f p = rnFrom s g p := by
  intro f
  induction f with
  | zero =>
    intro g p h1 h2
    cases g with
    | zero => rfl
    | succ g => rw [rnFrom, rnFrom, if_neg (by omega)]
  | succ f ih =>
    intro g p h1 h2
    by_cases hp : p < s.size
    · cases g with
      | zero => omega
      | succ g =>
        have := wd_pos s p
        unfold wd at this
        rw [rnFrom, rnFrom, if_pos hp, if_pos hp, ih g _ (by omega) (by omega)]
    · cases g with
      | zero => rw [rnFrom, rnFrom, if_neg hp]
      | succ g => rw [rnFrom, rnFrom, if_neg hp, if_neg hp]
def rl (s : ByteArray) (p : Nat) : List Nat := rnFrom s s.size p
theorem rl_step (s : ByteArray) (p : Nat) (h : p < s.size) : rl s p = (Utf8.decode s p).1 :: rl s (p + wd s p) := by
  unfold rl
  have h1 := wd_pos s p
  rw [rnFrom_fuel s s.size (s.size + 1) p (by omega) (by omega), rnFrom, if_pos h]
  rfl
theorem rl_end (s : ByteArray) (p : Nat) (h : ¬ p < s.size) : rl s p = [] := by
  unfold rl
  cases s.size with
  | zero => rfl
  | succ f => exact if_neg (by unfold Not at *; omega)
theorem validFrom_fuel (s : ByteArray) : ∀ f g p, s.size ≤ p + f → s.size ≤ p + g → validFrom s f p = validFrom s g p := by
  intro f
  induction f with
  | zero =>
    intro g p h1 h2
    cases g with
    | zero => rfl
    | succ g => rw [validFrom, validFrom, if_neg (by omega)]
  | succ f ih =>
    intro g p h1 h2
    by_cases hp : p < s.size
    · cases g with
      | zero => omega
      | succ g =>
        have := wd_pos s p
        unfold wd at this
        rw [validFrom, validFrom, if_pos hp, if_pos hp, ih g _ (by omega) (by omega)]
    · cases g with
      | zero => rw [validFrom, validFrom, if_neg hp]
      | succ g => rw [validFrom, validFrom, if_neg hp, if_neg hp]
def vl (s : ByteArray) (p : Nat) : Bool := validFrom s s.size p
theorem vl_step (s : ByteArray) (p : Nat) (h : p < s.size) : vl s p = (!wrongAt s p && vl s (p + wd s p)) := by
  unfold vl
  rw [validFrom_fuel s s.size (s.size + 1) p (by omega) (by omega), validFrom, if_pos h]
  cases wrongAt s p <;> rfl
theorem vl_end (s : ByteArray) (p : Nat) (h : ¬ p < s.size) : vl s p = true := by
  unfold vl
  cases s.size with
  | zero => rfl
  | succ f => exact if_neg (by unfold Not at *; omega)
theorem wrong_of {s t : ByteArray} {p q : Nat} (h : Utf8.decode s p = Utf8.decode t q) : wrongAt s p = wrongAt t q := by unfold wrongAt; rw [h]
theorem right_part (s t : ByteArray) : ∀ k p, t.size - p ≤ k → rl (s ++ t) (s.size + p) = rl t p ∧ vl (s ++ t) (s.size + p) = vl t p := by
  intro k
  induction k with
  | zero =>
    intro p h
    rw [rl_end _ _ (by rw [app_size]; omega), rl_end t p (by omega), vl_end _ _ (by rw [app_size]; omega), vl_end t p (by omega)]
    exact ⟨rfl, rfl⟩
  | succ k ih =>
    intro p h
    by_cases hp : p < t.size
    · have hd := app_dec_right s t p
      have hw := wd_pos t p
      have e : wd (s ++ t) (s.size + p) = wd t p := by unfold wd; rw [hd]
      obtain ⟨h1, h2⟩ := ih (p + wd t p) (by omega)
      rw [rl_step _ _ (by rw [app_size]; omega), rl_step t p hp, vl_step _ _ (by rw [app_size]; omega), vl_step t p hp, hd, e, wrong_of hd, Nat.add_assoc, h1, h2]
      exact ⟨rfl, rfl⟩
    · rw [rl_end _ _ (by rw [app_size]; omega), rl_end t p hp, vl_end _ _ (by rw [app_size]; omega), vl_end t p hp]
      exact ⟨rfl, rfl⟩
theorem left_part (s t : ByteArray) (hd : ∀ q, q < s.size → (∃ n, posn s n = q) → vl s q = true ∨ (t.size = 0 ∨ ¬ Cont (bt t 0 0)) → Utf8.decode (s ++ t) q = Utf8.decode s q) : ∀ k n, s.size - posn s n ≤ k → (vl s (posn s n) = true ∨ (t.size = 0 ∨ ¬ Cont (bt t 0 0))) →
    rl (s ++ t) (posn s n) = rl s (posn s n) ++ rl t 0 ∧ vl (s ++ t) (posn s n) = (vl s (posn s n) && vl t 0) := by
  intro k
  induction k with
  | zero =>
    intro n h _
    have hle := posn_le s n
    have e : posn s n = s.size + 0 := by omega
    obtain ⟨h1, h2⟩ := right_part s t _ 0 (Nat.le_refl _)
    rw [rl_end s _ (by omega), vl_end s _ (by omega), e, h1, h2]
    exact ⟨rfl, rfl⟩
  | succ k ih =>
    intro n h hv
    have hle := posn_le s n
    by_cases hp : posn s n < s.size
    · have hdd := hd _ hp ⟨n, rfl⟩ hv
      have e : wd (s ++ t) (posn s n) = wd s (posn s n) := by unfold wd; rw [hdd]
      have hs := posn_step s n hp
      have hw := wd_pos s (posn s n)
      have hv' : vl s (posn s (n + 1)) = true ∨ (t.size = 0 ∨ ¬ Cont (bt t 0 0)) := by
        rcases hv with hv | hv
        · left
          rw [vl_step s _ hp, Bool.and_eq_true] at hv
          rw [hs]; exact hv.2
        · exact .inr hv
      obtain ⟨h1, h2⟩ := ih (n + 1) (by omega) hv'
      rw [hs] at h1 h2
      rw [rl_step _ _ (by rw [app_size]; omega), rl_step s _ hp, vl_step _ _ (by rw [app_size]; omega), vl_step s _ hp, hdd, e, wrong_of hdd, h1, h2]
      exact ⟨rfl, by rw [Bool.and_assoc]⟩
    · have e : posn s n = s.size + 0 := by omega
      obtain ⟨h1, h2⟩ := right_part s t _ 0 (Nat.le_refl _)
      rw [rl_end s _ (by omega), vl_end s _ (by omega), e, h1, h2]
      exact ⟨rfl, rfl⟩
theorem rns_eq (s : ByteArray) : rns s = rl s 0 := rfl
theorem valid_eq (s : ByteArray) : valid s = vl s 0 := rfl
theorem vl_wrong (s : ByteArray) (q : Nat) (h : q < s.size) (hv : vl s q = true) : wrongAt s q = false := by
  rw [vl_step s q h, Bool.and_eq_true] at hv
  simpa using hv.1
theorem both_app (s t : ByteArray) (h : valid s = true ∨ (t.size = 0 ∨ ¬ Cont (bt t 0 0))) : rns (s ++ t) = rns s ++ rns t ∧ valid (s ++ t) = (valid s && valid t) := by
  have := left_part s t (fun q hq _ hv => by
    rcases hv with hv | hv
    · exact app_dec_left s t q hq (vl_wrong s q hq hv)
    · exact stop_dec s t hv q hq) _ 0 (Nat.le_refl _) h
  exact this
theorem rns_app {s : ByteArray} (t : ByteArray) (h : valid s = true) : rns (s ++ t) = rns s ++ rns t := (both_app s t (.inl h)).1
theorem valid_app {s : ByteArray} (t : ByteArray) (h : valid s = true) : valid (s ++ t) = valid t := by rw [(both_app s t (.inl h)).2, h, Bool.true_and]
/-- A byte below 128, ahead. -/
theorem cons_low (b : UInt8) (hb : b.toNat < 128) (t : ByteArray) : rns (⟨#[b]⟩ ++ t) = b.toNat :: rns t ∧ valid (⟨#[b]⟩ ++ t) = valid t := by
  have hd : Utf8.decode ⟨#[b]⟩ 0 = (b.toNat, 1) := Sg.sign_low _ _ hb
  have h1 : 0 < (⟨#[b]⟩ : ByteArray).size := Nat.zero_lt_one
  have h2 : ¬ 0 + 1 < (⟨#[b]⟩ : ByteArray).size := Nat.lt_irrefl 1
  have hwd : wd ⟨#[b]⟩ 0 = 1 := by unfold wd; rw [hd]
  have hwr : wrongAt ⟨#[b]⟩ 0 = false := by
    unfold wrongAt
    rw [hd]
    exact decide_eq_false fun h => by have := congrArg Prod.fst h; simp only [] at this; omega
  have hv : valid ⟨#[b]⟩ = true := by
    rw [valid_eq, vl_step _ _ h1, hwr, hwd, vl_end _ _ h2]
    rfl
  have hr : rns ⟨#[b]⟩ = [b.toNat] := by
    rw [rns_eq, rl_step _ _ h1, hwd, hd, rl_end _ _ h2]
  rw [rns_app t hv, valid_app t hv, hr]
  exact ⟨rfl, rfl⟩
/-- The signs of a text in small letters. -/
theorem rl_fold (s : ByteArray) : ∀ k n, s.size - posn s n ≤ k → vl s (posn s n) = true → rl (fold s) (posn s n) = (rl s (posn s n)).map (fun r : Nat => (small (r : Int)).toNat) ∧ fl s (posn s n) = (rl (fold s) (posn s n)).flatMap (fun r : Nat => Lib.encodeRune (r : Int)) := by
  intro k
  induction k with
  | zero =>
    intro n h _
    rw [rl_end _ _ (by rw [fold_size]; omega), rl_end s _ (by omega), fl_end s _ (by omega)]
    exact ⟨rfl, rfl⟩
  | succ k ih =>
    intro n h hv
    by_cases hp : posn s n < s.size
    · have hw := vl_wrong s _ hp hv
      have hf := (fold_right s n hp hw).1
      have hs := posn_step s n hp
      have hpos := wd_pos s (posn s n)
      rw [vl_step s _ hp, Bool.and_eq_true] at hv
      obtain ⟨h1, h2⟩ := ih (n + 1) (by omega) (by rw [hs]; exact hv.2)
      have e : wd (fold s) (posn s n) = wd s (posn s n) := by unfold wd; rw [hf]; rfl
      rw [hs] at h1 h2
      have hsm : 0 ≤ small ((Utf8.decode s (posn s n)).1 : Int) := (Sg.small_bd _ (by omega) (by have := Lib.rune_le s (posn s n); omega)).1
      have hpc : piece s (posn s n) = Lib.encodeRune (small (Utf8.decode s (posn s n)).1) := by unfold piece; rw [hw]; rfl
      rw [rl_step _ _ (by rw [fold_size]; exact hp), rl_step s _ hp, fl_step s _ hp, hf, e, h1, h2, hpc]
      simp only [List.map_cons, List.flatMap_cons]
      refine ⟨trivial, ?_⟩
      rw [Int.toNat_of_nonneg hsm, h1]
    · rw [rl_end _ _ (by rw [fold_size]; omega), rl_end s _ hp, fl_end s _ hp]
      exact ⟨rfl, rfl⟩
theorem rns_fold {s : ByteArray} (h : valid s = true) : rns (fold s) = (rns s).map (fun r : Nat => (small (r : Int)).toNat) := (rl_fold s _ 0 (Nat.le_refl _) h).1
theorem fold_bytes {s : ByteArray} (h : valid s = true) : (fold s).data.toList = (rns (fold s)).flatMap (fun r : Nat => Lib.encodeRune (r : Int)) := by
  rw [fold_list]
  exact (rl_fold s _ 0 (Nat.le_refl _) h).2
end Go.Gl
