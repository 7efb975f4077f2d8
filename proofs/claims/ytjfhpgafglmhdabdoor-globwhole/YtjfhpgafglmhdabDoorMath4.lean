/-
  SMALL LETTERS: what a folded text is, sign by sign. Plain functions, nothing of the program.
-/
import Derived.Test.YtjfhpgafglmhdabDoorMath3
namespace Go.Sg
theorem small_row : ∀ j, j < 19 → ∀ i, i < 50 → rowF j + (i : Nat) ≤ rowL j → ((i : Nat) : Int) % rowS j = 0 → small (rowF j + (i : Nat) + rowP j) = rowF j + (i : Nat) + rowP j ∧ wordB (rowF j + (i : Nat) + rowP j) = wordB (rowF j + (i : Nat)) := by decide +kernel
theorem row_wide : ∀ j, j < 19 → rowL j - rowF j < 50 := by decide +kernel
theorem small_two (r : Int) : small (small r) = small r ∧ wordB (small r) = wordB r := by
  rcases small_cases r with e | ⟨j, hj, h1, h2, h3, e⟩
  · rw [e, e]; exact ⟨rfl, rfl⟩
  · have hw := row_wide j hj
    have h := small_row j hj (r - rowF j).toNat (by omega) (by omega) (by rw [show (((r - rowF j).toNat : Nat) : Int) = r - rowF j from by omega]; exact h3)
    rw [show rowF j + (((r - rowF j).toNat : Nat) : Int) = r from by omega] at h
    rw [e]
    exact h
/-- The bytes that stand for a sign in the folded text. -/
def piece (s : ByteArray) (p : Nat) : List UInt8 := if wrongAt s p then [s.get! p] else Lib.encodeRune (small (Utf8.decode s p).1)
theorem piece_length (s : ByteArray) (p : Nat) : (piece s p).length = wd s p := piece_len s p
theorem foldFrom_step (s : ByteArray) (f p : Nat) (h : p < s.size) : foldFrom s (f + 1) p = piece s p ++ foldFrom s f (p + wd s p) := if_pos h
theorem foldFrom_fuel (s : ByteArray) : ∀ f g p, s.size ≤ p + f → s.size ≤ p + g → foldFrom s f p = foldFrom s g p
  | 0, g, p, h, _ => by rw [foldFrom_end s g p (by omega)]; rfl
  | f + 1, g, p, h, h' => by
    by_cases hp : p < s.size
    · obtain ⟨k, rfl⟩ : ∃ k, g = k + 1 := ⟨g - 1, by omega⟩
      have := wd_pos s p
      rw [foldFrom_step s f p hp, foldFrom_step s k p hp, foldFrom_fuel s f k _ (by omega) (by omega)]
    · rw [foldFrom_end s _ p hp, foldFrom_end s _ p hp]
def fl (s : ByteArray) (p : Nat) : List UInt8 := foldFrom s s.size p
theorem fl_step (s : ByteArray) (p : Nat) (h : p < s.size) : fl s p = piece s p ++ fl s (p + wd s p) := by
  unfold fl
  have := wd_pos s p
  rw [foldFrom_fuel s s.size (s.size + 1) p (by omega) (by omega), foldFrom_step s _ p h]
theorem fl_end (s : ByteArray) (p : Nat) (h : ¬ p < s.size) : fl s p = [] := foldFrom_end s _ p h
theorem fold_list (s : ByteArray) : (fold s).data.toList = fl s 0 := by unfold fold fl; simp
/-- What the folded text holds from a sign's beginning on. -/
theorem fold_drop (s : ByteArray) : ∀ n, (fl s 0).drop (posn s n) = fl s (posn s n)
  | 0 => rfl
  | n + 1 => by
    by_cases h : posn s n < s.size
    · have ih := fold_drop s n
      rw [posn_step s n h, ← List.drop_drop, ih, fl_step s _ h, List.drop_append_of_le_length (by rw [piece_length]; exact Nat.le_refl _), List.drop_of_length_le (by rw [piece_length]; exact Nat.le_refl _), List.nil_append]
    · rw [posn_stay s n h]; exact fold_drop s n
theorem fold_get (s : ByteArray) (n j : Nat) (h : posn s n < s.size) (hj : j < wd s (posn s n)) : (fold s).get! (posn s n + j) = (piece s (posn s n)).getD j 0 := by
  rw [← Lib.getD_get!, fold_list]
  have e : (fl s 0).getD (posn s n + j) 0 = ((fl s 0).drop (posn s n)).getD j 0 := by simp [List.getD]
  rw [e, fold_drop, fl_step s _ h, List.getD, List.getD, List.getElem?_append_left (by rw [piece_length]; exact hj)]
/-- The bytes of a written sign, by its class. -/
theorem enc1 {r : Int} (h0 : 0 ≤ r) (h1 : r ≤ 127) : Lib.encodeRune r = [r.toNat.toUInt8] := by unfold Lib.encodeRune; rw [Lib.encodeRuneZ_one h0 h1]; rfl
theorem enc2 {r : Int} (h0 : 128 ≤ r) (h1 : r ≤ 2047) : Lib.encodeRune r = [(192 + r / 64).toNat.toUInt8, (128 + r % 64).toNat.toUInt8] := by unfold Lib.encodeRune; rw [Lib.encodeRuneZ_two h0 h1]; rfl
theorem enc3 {r : Int} (h : (2048 ≤ r ∧ r < 55296) ∨ (57343 < r ∧ r ≤ 65535)) : Lib.encodeRune r = [(224 + r / 4096).toNat.toUInt8, (128 + r / 64 % 64).toNat.toUInt8, (128 + r % 64).toNat.toUInt8] := by unfold Lib.encodeRune; rw [Lib.encodeRuneZ_three h]; rfl
theorem enc4 {r : Int} (h0 : 65536 ≤ r) (h1 : r ≤ 1114111) : Lib.encodeRune r = [(240 + r / 262144).toNat.toUInt8, (128 + r / 4096 % 64).toNat.toUInt8, (128 + r / 64 % 64).toNat.toUInt8, (128 + r % 64).toNat.toUInt8] := by unfold Lib.encodeRune; rw [Lib.encodeRuneZ_four h0 h1]; rfl
theorem u8_nat (n : Nat) (h : n < 256) : n.toUInt8.toNat = n := by simp [Nat.mod_eq_of_lt h]
/-- A written sign is read as what was written. -/
theorem enc_dec (t : ByteArray) (p : Nat) (r : Int) (n : Nat) (hc : Cls r n) (hs : p + n ≤ t.size) (hb : ∀ j, j < n → t.get! (p + j) = (Lib.encodeRune r).getD j 0) : Utf8.decode t p = (r.toNat, n) ∧ wrongAt t p = false := by
  rcases hc with ⟨h0, h1, rfl⟩ | ⟨h0, h1, rfl⟩ | ⟨h0, rfl⟩ | ⟨h0, h1, rfl⟩
  · have b0 := hb 0 (by omega)
    rw [enc1 h0 h1] at b0
    have e0 : bt t p 0 = r.toNat := by unfold bt; rw [b0]; exact u8_nat _ (by omega)
    have hd := sign_low t p (by rw [e0]; omega)
    rw [e0] at hd
    refine ⟨hd, ?_⟩
    unfold wrongAt
    rw [hd]
    simp
    omega
  · have b0 := hb 0 (by omega)
    have b1 := hb 1 (by omega)
    rw [enc2 h0 h1] at b0 b1
    have e0 : bt t p 0 = (192 + r / 64).toNat := by unfold bt; rw [b0]; exact u8_nat _ (by omega)
    have e1 : bt t p 1 = (128 + r % 64).toNat := by unfold bt; rw [b1]; exact u8_nat _ (by omega)
    have hd := sign_all t p 2 192 128 (.inl ⟨rfl, rfl, rfl, by omega, by omega⟩) hs (fun k k1 k2 => by obtain rfl : k = 1 := (by omega); omega)
    rw [refR2, e0, e1, show ((192 + r / 64).toNat - 192) * 64 + ((128 + r % 64).toNat - 128) = r.toNat from by omega, if_neg (by omega)] at hd
    exact ⟨hd, sign_right t p 2 _ hd (by omega)⟩
  · have b0 := hb 0 (by omega)
    have b1 := hb 1 (by omega)
    have b2 := hb 2 (by omega)
    rw [enc3 h0] at b0 b1 b2
    have e0 : bt t p 0 = (224 + r / 4096).toNat := by unfold bt; rw [b0]; exact u8_nat _ (by omega)
    have e1 : bt t p 1 = (128 + r / 64 % 64).toNat := by unfold bt; rw [b1]; exact u8_nat _ (by omega)
    have e2 : bt t p 2 = (128 + r % 64).toNat := by unfold bt; rw [b2]; exact u8_nat _ (by omega)
    have hd := sign_all t p 3 224 2048 (.inr (.inl ⟨rfl, rfl, rfl, by omega, by omega⟩)) hs (fun k k1 k2 => by
      have hk : k = 1 ∨ k = 2 := (by omega)
      rcases hk with rfl | rfl <;> omega)
    rw [refR3, e0, e1, e2, show (((224 + r / 4096).toNat - 224) * 64 + ((128 + r / 64 % 64).toNat - 128)) * 64 + ((128 + r % 64).toNat - 128) = r.toNat from by omega, if_neg (by omega)] at hd
    exact ⟨hd, sign_right t p 3 _ hd (by omega)⟩
  · have b0 := hb 0 (by omega)
    have b1 := hb 1 (by omega)
    have b2 := hb 2 (by omega)
    have b3 := hb 3 (by omega)
    rw [enc4 h0 h1] at b0 b1 b2 b3
    have e0 : bt t p 0 = (240 + r / 262144).toNat := by unfold bt; rw [b0]; exact u8_nat _ (by omega)
    have e1 : bt t p 1 = (128 + r / 4096 % 64).toNat := by unfold bt; rw [b1]; exact u8_nat _ (by omega)
    have e2 : bt t p 2 = (128 + r / 64 % 64).toNat := by unfold bt; rw [b2]; exact u8_nat _ (by omega)
    have e3 : bt t p 3 = (128 + r % 64).toNat := by unfold bt; rw [b3]; exact u8_nat _ (by omega)
    have hd := sign_all t p 4 240 65536 (.inr (.inr ⟨rfl, rfl, rfl, by omega, by omega⟩)) hs (fun k k1 k2 => by
      have hk : k = 1 ∨ k = 2 ∨ k = 3 := (by omega)
      rcases hk with rfl | rfl | rfl <;> omega)
    rw [refR4, e0, e1, e2, e3, show ((((240 + r / 262144).toNat - 240) * 64 + ((128 + r / 4096 % 64).toNat - 128)) * 64 + ((128 + r / 64 % 64).toNat - 128)) * 64 + ((128 + r % 64).toNat - 128) = r.toNat from by omega, if_neg (by omega)] at hd
    exact ⟨hd, sign_right t p 4 _ hd (by omega)⟩
end Go.Sg
