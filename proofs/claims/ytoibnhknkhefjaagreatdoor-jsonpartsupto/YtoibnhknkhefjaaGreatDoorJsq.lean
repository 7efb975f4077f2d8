/-
  How long the sequence is with which a text begins: plain. Nothing of the program.
-/
import Derived.Test.YtoibnhknkhefjaaGreatDoorJpa
namespace Go.Jv
def sqL (b0 : Nat) : Nat := if b0 ≤ 223 then 2 else if b0 ≤ 239 then 3 else 4
def sqLo (b0 : Nat) : Nat := if b0 = 224 then 160 else if b0 = 240 then 144 else 128
def sqHi (b0 : Nat) : Nat := if b0 = 237 then 159 else if b0 = 244 then 143 else 191
/-- The bytes behind the first. -/
def sqB (b0 b : Nat) (j : Nat) : Prop := if j = 1 then sqLo b0 ≤ b ∧ b ≤ sqHi b0 else 128 ≤ b ∧ b ≤ 191
theorem sq_good (n b0 b1 b2 b3 : Nat) (h0 : 194 ≤ b0) (h1 : b0 ≤ 244) (hn : sqL b0 ≤ n) (c1 : sqLo b0 ≤ b1 ∧ b1 ≤ sqHi b0) (c2 : 3 ≤ sqL b0 → 128 ≤ b2 ∧ b2 ≤ 191) (c3 : 4 ≤ sqL b0 → 128 ≤ b3 ∧ b3 ≤ 191) :
    (Lib.decodeN n b0 b1 b2 b3).2 = sqL b0 := by
  unfold sqL at *
  unfold sqLo sqHi at c1
  unfold Lib.decodeN
  by_cases a1 : b0 ≤ 223
  · rw [if_pos a1] at *
    repeat' split at c1
    all_goals
      repeat' split
      all_goals first | rfl | (exfalso; omega)
  · rw [if_neg a1] at *
    by_cases a2 : b0 ≤ 239
    · rw [if_pos a2] at *
      have d2 := c2 (by omega)
      repeat' split at c1
      all_goals
        repeat' split
        all_goals first | rfl | (exfalso; omega)
    · rw [if_neg a2] at *
      have d2 := c2 (by omega)
      have d3 := c3 (by omega)
      repeat' split at c1
      all_goals
        repeat' split
        all_goals first | rfl | (exfalso; omega)
theorem sq_bad (n b0 b1 b2 b3 : Nat) (h0 : 194 ≤ b0) (h1 : b0 ≤ 244) (l1 : b1 < 256) (l2 : b2 < 256) (l3 : b3 < 256) (h : n < sqL b0 ∨ ¬ (sqLo b0 ≤ b1 ∧ b1 ≤ sqHi b0) ∨ (3 ≤ sqL b0 ∧ ¬ (128 ≤ b2 ∧ b2 ≤ 191)) ∨ (4 ≤ sqL b0 ∧ ¬ (128 ≤ b3 ∧ b3 ≤ 191))) :
    (Lib.decodeN n b0 b1 b2 b3).2 = 1 := by
  unfold sqL sqLo sqHi at h
  unfold Lib.decodeN
  by_cases a1 : b0 ≤ 223
  · rw [if_pos a1] at h
    repeat' split at h
    all_goals
      repeat' split
      all_goals first | rfl | (exfalso; omega)
  · rw [if_neg a1] at h
    by_cases a2 : b0 ≤ 239
    · rw [if_pos a2] at h
      repeat' split at h
      all_goals
        repeat' split
        all_goals first | rfl | (exfalso; omega)
    · rw [if_neg a2] at h
      repeat' split at h
      all_goals
        repeat' split
        all_goals first | rfl | (exfalso; omega)
theorem sq_none (n b0 b1 b2 b3 : Nat) (h0 : 128 ≤ b0) (l0 : b0 < 256) (h : b0 < 194 ∨ 244 < b0) : (Lib.decodeN n b0 b1 b2 b3).2 = 1 := by
  unfold Lib.decodeN
  repeat' split
  all_goals first | rfl | (exfalso; omega)
/-- The length, as the document's function tells it. -/
def sqn (u : ByteArray) : Nat := if 128 ≤ (u.get! 0).toNat ∧ (Utf8.decode u 0).2 = 1 then 0 else (Utf8.decode u 0).2
/-- Where the document's loop over the bytes of a sequence stands. -/
structure SqI (u : ByteArray) (i : Nat) : Prop where
  lo : 194 ≤ (u.get! 0).toNat
  hi : (u.get! 0).toNat ≤ 244
  one : 1 ≤ i
  most : i ≤ sqL (u.get! 0).toNat
  size : i ≤ u.size
  all : ∀ j, 1 ≤ j → j < i → sqB (u.get! 0).toNat (u.get! j).toNat j
def sqLo2 (b0 i : Nat) : Nat := if i = 1 then sqLo b0 else 128
def sqHi2 (b0 i : Nat) : Nat := if i = 1 then sqHi b0 else 191
theorem sqB_iff (b0 b i : Nat) : sqB b0 b i ↔ sqLo2 b0 i ≤ b ∧ b ≤ sqHi2 b0 i := by
  unfold sqB sqLo2 sqHi2
  by_cases h : i = 1
  · simp [h]
  · simp [h]
theorem sqL_bound (b0 : Nat) : 2 ≤ sqL b0 ∧ sqL b0 ≤ 4 := by unfold sqL; split <;> (try split) <;> omega
theorem sq_done {u : ByteArray} {i : Nat} (h : SqI u i) (hi : i = sqL (u.get! 0).toNat) : sqn u = sqL (u.get! 0).toNat := by
  have hb := sqL_bound (u.get! 0).toNat
  have c1 := h.all 1 (by omega) (by omega)
  have h1 : (Utf8.decode u 0).2 = sqL (u.get! 0).toNat := by
    rw [Lib.decode_at]
    refine sq_good _ _ _ _ _ h.lo h.hi (by have := h.size; omega) (by simpa [sqB] using c1) (fun h3 => ?_) (fun h4 => ?_)
    · have := h.all 2 (by omega) (by omega); simpa [sqB] using this
    · have := h.all 3 (by omega) (by omega); simpa [sqB] using this
  unfold sqn
  rw [h1, if_neg (by omega)]
theorem sq_zero {u : ByteArray} (h0 : 128 ≤ (u.get! 0).toNat) (h1 : (Utf8.decode u 0).2 = 1) : sqn u = 0 := by
  unfold sqn; rw [if_pos ⟨h0, h1⟩]
theorem sq_short {u : ByteArray} {i : Nat} (h : SqI u i) (hi : i < sqL (u.get! 0).toNat) (hn : i = u.size) : sqn u = 0 := by
  refine sq_zero (by have := h.lo; omega) ?_
  rw [Lib.decode_at]
  exact sq_bad _ _ _ _ _ h.lo h.hi (UInt8.toNat_lt _) (UInt8.toNat_lt _) (UInt8.toNat_lt _) (.inl (by omega))
theorem sq_wrong {u : ByteArray} {i : Nat} (h : SqI u i) (hi : i < sqL (u.get! 0).toNat) (hw : ¬ sqB (u.get! 0).toNat (u.get! i).toNat i) : sqn u = 0 := by
  refine sq_zero (by have := h.lo; omega) ?_
  rw [Lib.decode_at]
  refine sq_bad _ _ _ _ _ h.lo h.hi (UInt8.toNat_lt _) (UInt8.toNat_lt _) (UInt8.toNat_lt _) (.inr ?_)
  have hb := sqL_bound (u.get! 0).toNat
  have ho := h.one
  have h3 : i = 1 ∨ i = 2 ∨ i = 3 := by omega
  rcases h3 with rfl | rfl | rfl
  · left; simpa [sqB] using hw
  · right; left; exact ⟨by omega, by simpa [sqB] using hw⟩
  · right; right; exact ⟨by omega, by simpa [sqB] using hw⟩
theorem sq_ascii {u : ByteArray} (h : (u.get! 0).toNat < 128) : sqn u = 1 := by
  unfold sqn
  rw [if_neg (by omega), Lib.decode_at]
  simp [Lib.decodeN, h]
theorem sq_other {u : ByteArray} (h0 : 128 ≤ (u.get! 0).toNat) (h : (u.get! 0).toNat < 194 ∨ 244 < (u.get! 0).toNat) : sqn u = 0 := by
  refine sq_zero h0 ?_
  rw [Lib.decode_at]
  exact sq_none _ _ _ _ _ h0 (UInt8.toNat_lt _) h
theorem SqI.next {u : ByteArray} {i : Nat} (h : SqI u i) (hi : i < sqL (u.get! 0).toNat) (hn : i < u.size) (hb : sqB (u.get! 0).toNat (u.get! i).toNat i) : SqI u (i + 1) :=
  ⟨h.lo, h.hi, by omega, hi, hn, fun j h1 h2 => by
    by_cases hj : j = i
    · subst hj; exact hb
    · exact h.all j h1 (by omega)⟩
end Go.Jv
