/-
  A text with U+FFFD for each of its wrong bytes: plain. Nothing of the program.
-/
import Derived.Test.YtelhjocmiamfiaaGreatDoorJqs
import Derived.Lib.MapLaws
import Derived.Lib.ValidLaws
import Derived.Lib.TrimUEq
namespace Go.Jv
open Go.Lib
def RL (l : List UInt8) : List UInt8 := mapD (fun r => r) l
theorem RL_nil : RL [] = [] := rfl
theorem enc_mark : encodeRune ((65533 : Nat) : Int) = [239, 191, 189] := by kernel_rfl
theorem RL_bad {l : List UInt8} (hne : l ≠ []) (hb : (decodeL l).1 = 65533 ∧ (decodeL l).2 = 1) : RL l = [239, 191, 189] ++ RL (l.drop 1) := by
  unfold RL
  rw [mapD_step _ l hne, hb.1, hb.2, if_pos (by omega), enc_mark]
theorem RL_ok {l : List UInt8} (hne : l ≠ []) (hv : ¬ ((decodeL l).1 = 65533 ∧ (decodeL l).2 = 1)) : RL l = l.take (decodeL l).2 ++ RL (l.drop (decodeL l).2) := mapD_same _ l hne rfl hv
theorem decL_pos (l : List UInt8) : 1 ≤ (decodeL l).2 := by rw [decodeL_N]; exact decodeN_ge1 _ _ _ _ _
theorem RL_len : ∀ (n : Nat) (l : List UInt8), l.length ≤ n → (RL l).length ≤ 3 * l.length := by
  intro n
  induction n with
  | zero =>
    intro l hl
    have : l = [] := List.eq_nil_of_length_eq_zero (by omega)
    subst this; simp [RL_nil]
  | succ n ih =>
    intro l hl
    by_cases hne : l = []
    · subst hne; simp [RL_nil]
    · have hpos : 0 < l.length := List.length_pos_iff.2 hne
      by_cases hb : (decodeL l).1 = 65533 ∧ (decodeL l).2 = 1
      · rw [RL_bad hne hb]
        have := ih (l.drop 1) (by simp; omega)
        simp at this ⊢; omega
      · rw [RL_ok hne hb]
        have h1 := decL_pos l
        have h2 := decodeL_le l hne
        have := ih (l.drop (decodeL l).2) (by simp; omega)
        simp at this ⊢; omega
theorem decL_mark (r : List UInt8) : decodeL ([239, 191, 189] ++ r) = (65533, 3) := by
  rw [decodeL_N]
  simp only [List.cons_append, List.nil_append, List.getD_cons_zero, List.getD_cons_succ]
  simp [decodeN]
theorem decL_take {l r : List UInt8} (hne : l ≠ []) (hv : ¬ ((decodeL l).1 = 65533 ∧ (decodeL l).2 = 1)) : decodeL (l.take (decodeL l).2 ++ r) = decodeL l := by
  have hle := decodeL_le l hne
  have hpos := decL_pos l
  rw [decodeL_N (l.take (decodeL l).2 ++ r)]
  have hN := decodeL_N l
  have hg : ∀ j, j < (decodeL l).2 → (l.take (decodeL l).2 ++ r).getD j 0 = l.getD j 0 := fun j hj => by
    rw [List.getD_eq_getElem?_getD, List.getD_eq_getElem?_getD, List.getElem?_append_left (by rw [List.length_take]; omega), List.getElem?_take, if_pos hj]
  rw [hN] at hv hg hle ⊢
  have e0 := hg 0 (by rw [← hN]; omega)
  rw [e0]
  exact decN_same _ _ _ _ _ _ _ _ _ hv (by rw [List.length_append, List.length_take]; omega) (fun hk => by rw [hg 1 hk]) (fun hk => by rw [hg 2 hk]) (fun hk => by rw [hg 3 hk])
theorem RL_valid : ∀ (n : Nat) (l : List UInt8), l.length ≤ n → validD (RL l) = true := by
  intro n
  induction n with
  | zero =>
    intro l hl
    have : l = [] := List.eq_nil_of_length_eq_zero (by omega)
    subst this; exact validD_nil
  | succ n ih =>
    intro l hl
    by_cases hne : l = []
    · subst hne; exact validD_nil
    · have hpos : 0 < l.length := List.length_pos_iff.2 hne
      by_cases hb : (decodeL l).1 = 65533 ∧ (decodeL l).2 = 1
      · rw [RL_bad hne hb, validD_step _ (by simp), decL_mark, if_neg (by simp)]
        exact ih _ (by simp; omega)
      · have h1 := decL_pos l
        have h2 := decodeL_le l hne
        have h3 : (l.take (decodeL l).2).length = (decodeL l).2 := by rw [List.length_take]; omega
        rw [RL_ok hne hb, validD_step _ (by intro e; have := congrArg List.length e; rw [List.length_append, h3] at this; simp at this; omega), decL_take hne hb, if_neg hb, List.drop_left' h3]
        exact ih _ (by simp; omega)
theorem RL_id : ∀ (n : Nat) (l : List UInt8), l.length ≤ n → validD l = true → RL l = l := by
  intro n
  induction n with
  | zero =>
    intro l hl _
    have : l = [] := List.eq_nil_of_length_eq_zero (by omega)
    subst this; exact RL_nil
  | succ n ih =>
    intro l hl hv
    by_cases hne : l = []
    · subst hne; exact RL_nil
    · have hpos : 0 < l.length := List.length_pos_iff.2 hne
      rw [validD_step _ hne] at hv
      by_cases hb : (decodeL l).1 = 65533 ∧ (decodeL l).2 = 1
      · rw [if_pos hb] at hv; cases hv
      · rw [if_neg hb] at hv
        have h1 := decL_pos l
        rw [RL_ok hne hb, ih _ (by simp; omega) hv, List.take_append_drop]
/-- Of a text. -/
def rightB (s : ByteArray) : ByteArray := ⟨(RL s.data.toList).toArray⟩
theorem rightB_list (s : ByteArray) : (rightB s).data.toList = RL s.data.toList := by simp [rightB]
theorem rightB_valid (s : ByteArray) : validD (rightB s).data.toList = true := by rw [rightB_list]; exact RL_valid _ _ (Nat.le_refl _)
theorem rightB_id {s : ByteArray} (h : validD s.data.toList = true) : rightB s = s := by
  unfold rightB; rw [RL_id _ _ (Nat.le_refl _) h]
theorem rightB_twice (s : ByteArray) : rightB (rightB s) = rightB s := rightB_id (rightB_valid s)
theorem rightB_size (s : ByteArray) : (rightB s).size ≤ 3 * s.size := by
  have h := RL_len _ s.data.toList (Nat.le_refl _)
  rw [← rightB_list] at h
  rw [Lib.size_eq, Lib.size_eq]
  simpa using h
/-- From a place on. -/
theorem drop_ne {s : ByteArray} {p : Nat} (h : p < s.size) : s.data.toList.drop p ≠ [] := by
  intro e
  have := congrArg List.length e
  rw [sx_len] at this
  simp at this
  omega
theorem RL_at_bad {s : ByteArray} {p : Nat} (h : p < s.size) (hb : 128 ≤ (s.get! p).toNat) (hw : (Utf8.decode s p).2 = 1) : RL (s.data.toList.drop p) = [239, 191, 189] ++ RL (s.data.toList.drop (p + 1)) := by
  have hd : decodeL (s.data.toList.drop p) = Utf8.decode s p := decodeL_drop s p
  rw [RL_bad (drop_ne h) (by
    rw [hd]
    refine ⟨?_, hw⟩
    rw [Lib.decode_at] at hw ⊢
    revert hw
    unfold Lib.decodeN
    repeat' split
    all_goals first | (exfalso; omega) | (intro _; rfl) | (intro h; simp at h)), List.drop_drop]
theorem RL_at_ok {s : ByteArray} {p : Nat} (h : p < s.size) (hb : ¬ (128 ≤ (s.get! p).toNat ∧ (Utf8.decode s p).2 = 1)) : RL (s.data.toList.drop p) = (s.extract p (p + (Utf8.decode s p).2)).data.toList ++ RL (s.data.toList.drop (p + (Utf8.decode s p).2)) := by
  have hd : decodeL (s.data.toList.drop p) = Utf8.decode s p := decodeL_drop s p
  rw [RL_ok (drop_ne h) (by
    rw [hd]
    rintro ⟨h1, h2⟩
    apply hb
    refine ⟨?_, h2⟩
    rw [Lib.decode_at] at h1
    by_cases h128 : (s.get! p).toNat < 128
    · rw [Lib.decodeN_ascii _ _ _ _ _ h128] at h1
      simp at h1; omega
    · omega), hd, List.drop_drop]
  congr 1
  simp [List.take_drop]
end Go.Jv
