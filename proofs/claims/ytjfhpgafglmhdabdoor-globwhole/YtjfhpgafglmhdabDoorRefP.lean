/-
  THE SIGN AT A PLACE, AS THE SECOND TEXT READS IT BYTE BY BYTE: plain functions, nothing of the program.
-/
import Derived.Test.YtjfhpgafglmhdabDoorMath1
namespace Go.Sg
/-- The lead byte's class: how many bytes, what is taken off, the least number. -/
def Lead (n off least b0 : Nat) : Prop := (n = 2 ∧ off = 192 ∧ least = 128 ∧ 194 ≤ b0 ∧ b0 ≤ 223) ∨ (n = 3 ∧ off = 224 ∧ least = 2048 ∧ 224 ≤ b0 ∧ b0 ≤ 239) ∨ (n = 4 ∧ off = 240 ∧ least = 65536 ∧ 240 ≤ b0 ∧ b0 ≤ 244)
/-- What the first k bytes come to. -/
def refR (b : Nat → Nat) (off : Nat) : Nat → Nat
  | 0 => 0
  | 1 => b 0 - off
  | k + 2 => refR b off (k + 1) * 64 + (b (k + 1) - 128)
theorem refR2 (b : Nat → Nat) (off : Nat) : refR b off 2 = (b 0 - off) * 64 + (b 1 - 128) := rfl
theorem refR3 (b : Nat → Nat) (off : Nat) : refR b off 3 = ((b 0 - off) * 64 + (b 1 - 128)) * 64 + (b 2 - 128) := rfl
theorem refR4 (b : Nat → Nat) (off : Nat) : refR b off 4 = (((b 0 - off) * 64 + (b 1 - 128)) * 64 + (b 2 - 128)) * 64 + (b 3 - 128) := rfl
def bt (s : ByteArray) (a j : Nat) : Nat := (s.get! (a + j)).toNat
theorem bt_lt (s : ByteArray) (a j : Nat) : bt s a j < 256 := UInt8.toNat_lt _
theorem decode_bt (s : ByteArray) (a : Nat) : Utf8.decode s a = Lib.decodeN (s.size - a) (bt s a 0) (bt s a 1) (bt s a 2) (bt s a 3) := Lib.decode_at s a
theorem sign_low (s : ByteArray) (a : Nat) (h : bt s a 0 < 128) : Utf8.decode s a = (bt s a 0, 1) := by
  rw [decode_bt]
  simp [Lib.decodeN, h]
theorem sign_nolead (s : ByteArray) (a : Nat) (h : 128 ≤ bt s a 0) (h2 : bt s a 0 < 194 ∨ 244 < bt s a 0) : Utf8.decode s a = (65533, 1) := by
  rw [decode_bt]
  have := bt_lt s a 0
  generalize bt s a 0 = b0 at *
  unfold Lib.decodeN
  repeat' split
  all_goals first | rfl | omega
theorem sign_short (s : ByteArray) (a n off least : Nat) (h : Lead n off least (bt s a 0)) (hs : s.size < a + n) : Utf8.decode s a = (65533, 1) := by
  rw [decode_bt]
  unfold Lead at h
  generalize bt s a 0 = b0 at *
  unfold Lib.decodeN
  repeat' split
  all_goals first | rfl | omega
theorem sign_cont (s : ByteArray) (a n off least k : Nat) (h : Lead n off least (bt s a 0)) (hk : 1 ≤ k) (hkn : k < n) (hb : bt s a k < 128 ∨ 191 < bt s a k) : Utf8.decode s a = (65533, 1) := by
  rw [decode_bt]
  unfold Lead at h
  have l1 := bt_lt s a 1
  have l2 := bt_lt s a 2
  have l3 := bt_lt s a 3
  have hk3 : k = 1 ∨ k = 2 ∨ k = 3 := by omega
  rcases hk3 with rfl | rfl | rfl
  all_goals
    generalize bt s a 0 = b0 at *
    generalize bt s a 1 = b1 at *
    generalize bt s a 2 = b2 at *
    generalize bt s a 3 = b3 at *
    unfold Lib.decodeN
    repeat' split
    all_goals first | rfl | omega
theorem sign_all (s : ByteArray) (a n off least : Nat) (h : Lead n off least (bt s a 0)) (hs : a + n ≤ s.size) (hb : ∀ k, 1 ≤ k → k < n → 128 ≤ bt s a k ∧ bt s a k ≤ 191) :
    Utf8.decode s a = if refR (bt s a) off n < least ∨ 1114111 < refR (bt s a) off n ∨ (55296 ≤ refR (bt s a) off n ∧ refR (bt s a) off n ≤ 57343) then (65533, 1) else (refR (bt s a) off n, n) := by
  rw [decode_bt]
  unfold Lead at h
  rcases h with ⟨rfl, o1, o2, h1, h2⟩ | ⟨rfl, o1, o2, h1, h2⟩ | ⟨rfl, o1, o2, h1, h2⟩
  · have c1 := hb 1 (by omega) (by omega)
    rw [refR2]
    generalize bt s a 0 = b0 at *
    generalize bt s a 1 = b1 at *
    unfold Lib.decodeN
    repeat' split
    all_goals first | (exfalso; omega) | (refine Prod.ext ?_ ?_ <;> dsimp only <;> omega)
  · have c1 := hb 1 (by omega) (by omega)
    have c2 := hb 2 (by omega) (by omega)
    rw [refR3]
    generalize bt s a 0 = b0 at *
    generalize bt s a 1 = b1 at *
    generalize bt s a 2 = b2 at *
    unfold Lib.decodeN
    repeat' split
    all_goals first | (exfalso; omega) | (refine Prod.ext ?_ ?_ <;> dsimp only <;> omega)
  · have c1 := hb 1 (by omega) (by omega)
    have c2 := hb 2 (by omega) (by omega)
    have c3 := hb 3 (by omega) (by omega)
    rw [refR4]
    generalize bt s a 0 = b0 at *
    generalize bt s a 1 = b1 at *
    generalize bt s a 2 = b2 at *
    generalize bt s a 3 = b3 at *
    unfold Lib.decodeN
    repeat' split
    all_goals first | (exfalso; omega) | (refine Prod.ext ?_ ?_ <;> dsimp only <;> omega)
/-- Where all bytes go on and the number is one, the byte is not wrong. -/
theorem sign_right (s : ByteArray) (a n : Nat) (r : Nat) (h : Utf8.decode s a = (r, n)) (hn : n ≠ 1) : wrongAt s a = false := by
  unfold wrongAt
  rw [h]
  simp
  omega
theorem wrong_of (s : ByteArray) (a : Nat) (h : Utf8.decode s a = (65533, 1)) : wrongAt s a = true := by
  unfold wrongAt
  rw [h]
  rfl
theorem refR_step (b : Nat → Nat) (off k : Nat) (hk : 1 ≤ k) : refR b off (k + 1) = refR b off k * 64 + (b k - 128) := by
  obtain ⟨j, rfl⟩ : ∃ j, k = j + 1 := ⟨k - 1, by omega⟩
  rfl
end Go.Sg
