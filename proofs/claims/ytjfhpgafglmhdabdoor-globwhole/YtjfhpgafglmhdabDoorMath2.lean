/-
  PLACES OF A TEXT: where signs begin; what stands within one. Plain functions, nothing of the program.
-/
import Derived.Test.YtjfhpgafglmhdabDoorRefP
import Derived.Test.YtjfhpgafglmhdabDoorPlain
namespace Go.Sg
/-- How many bytes the sign has that begins at a place. -/
def wd (s : ByteArray) (p : Nat) : Nat := (Utf8.decode s p).2
theorem wd_pos (s : ByteArray) (p : Nat) : 1 ≤ wd s p := Lib.width_pos s p
theorem wd_wrong {s : ByteArray} {p : Nat} (h : Utf8.decode s p = (65533, 1)) : wd s p = 1 := by unfold wd; rw [h]
/-- A sign of several bytes. -/
theorem multi_all (s : ByteArray) (p : Nat) (h : 2 ≤ wd s p) : ∃ n off least, Lead n off least (bt s p 0) ∧ p + n ≤ s.size ∧ (∀ k, 1 ≤ k → k < n → 128 ≤ bt s p k ∧ bt s p k ≤ 191) ∧
    ¬ (refR (bt s p) off n < least ∨ 1114111 < refR (bt s p) off n ∨ (55296 ≤ refR (bt s p) off n ∧ refR (bt s p) off n ≤ 57343)) ∧ Utf8.decode s p = (refR (bt s p) off n, n) := by
  have h0 : 128 ≤ bt s p 0 := by
    by_cases c : bt s p 0 < 128
    · have := sign_low s p c
      unfold wd at h
      rw [this] at h
      simp at h
    · omega
  have hl : ∃ n off least, Lead n off least (bt s p 0) := by
    by_cases c : bt s p 0 < 194 ∨ 244 < bt s p 0
    · have := wd_wrong (sign_nolead s p h0 c)
      omega
    · by_cases c2 : bt s p 0 ≤ 223
      · exact ⟨2, 192, 128, .inl ⟨rfl, rfl, rfl, by omega, c2⟩⟩
      · by_cases c3 : bt s p 0 ≤ 239
        · exact ⟨3, 224, 2048, .inr (.inl ⟨rfl, rfl, rfl, by omega, c3⟩)⟩
        · exact ⟨4, 240, 65536, .inr (.inr ⟨rfl, rfl, rfl, by omega, by omega⟩)⟩
  obtain ⟨n, off, least, hL⟩ := hl
  have hs : p + n ≤ s.size := by
    by_cases c : s.size < p + n
    · have := wd_wrong (sign_short s p n off least hL c)
      omega
    · omega
  have hc : ∀ k, 1 ≤ k → k < n → 128 ≤ bt s p k ∧ bt s p k ≤ 191 := by
    intro k k1 k2
    by_cases c : bt s p k < 128 ∨ 191 < bt s p k
    · have := wd_wrong (sign_cont s p n off least k hL k1 k2 c)
      omega
    · omega
  have hd := sign_all s p n off least hL hs hc
  refine ⟨n, off, least, hL, hs, hc, ?_, ?_⟩
  · intro c
    rw [if_pos c] at hd
    have := wd_wrong hd
    omega
  · rw [hd, if_neg]
    intro c
    rw [if_pos c] at hd
    have := wd_wrong hd
    omega
/-- A sign of several bytes: its first byte; the others. -/
theorem multi (s : ByteArray) (p : Nat) (h : 2 ≤ wd s p) : 194 ≤ bt s p 0 ∧ (∀ j, 1 ≤ j → j < wd s p → 128 ≤ bt s p j ∧ bt s p j ≤ 191) ∧ p + wd s p ≤ s.size ∧ wd s p ≤ 4 := by
  obtain ⟨n, off, least, hL, hs, hc, _, hd⟩ := multi_all s p h
  have hw : wd s p = n := by unfold wd; rw [hd]
  rw [hw]
  unfold Lead at hL
  exact ⟨by omega, hc, hs, by omega⟩
theorem wd_le4 (s : ByteArray) (p : Nat) : wd s p ≤ 4 := by
  by_cases h : 2 ≤ wd s p
  · exact (multi s p h).2.2.2
  · omega
theorem bt_add (s : ByteArray) (p i j : Nat) : bt s (p + i) j = bt s p (i + j) := by
  unfold bt
  rw [Nat.add_assoc]
theorem refR_congr (b c : Nat → Nat) (off : Nat) : ∀ n, (∀ j, j < n → b j = c j) → refR b off n = refR c off n
  | 0, _ => rfl
  | 1, h => by
    show b 0 - off = c 0 - off
    rw [h 0 (by omega)]
  | n + 2, h => by
    show refR b off (n + 1) * 64 + (b (n + 1) - 128) = refR c off (n + 1) * 64 + (c (n + 1) - 128)
    rw [refR_congr b c off (n + 1) (fun j hj => h j (by omega)), h (n + 1) (by omega)]
/-- A sign of several bytes stands wherever its bytes stand. -/
theorem stable (s t : ByteArray) (p q : Nat) (h : 2 ≤ wd s p) (hq : q + wd s p ≤ t.size) (hb : ∀ j, j < wd s p → bt t q j = bt s p j) : Utf8.decode t q = Utf8.decode s p := by
  obtain ⟨n, off, least, hL, hs, hc, hn, hd⟩ := multi_all s p h
  have hw : wd s p = n := by unfold wd; rw [hd]
  rw [hw] at hq hb
  have hn2 : 2 ≤ n := by unfold Lead at hL; omega
  have hL' : Lead n off least (bt t q 0) := by rw [hb 0 (by omega)]; exact hL
  have := sign_all t q n off least hL' hq (fun k k1 k2 => by rw [hb k k2]; exact hc k k1 k2)
  rw [refR_congr (bt t q) (bt s p) off n hb, if_neg hn] at this
  rw [this, hd]
/-- Where the signs begin, one behind the other. -/
def posn (s : ByteArray) : Nat → Nat
  | 0 => 0
  | n + 1 => if posn s n < s.size then posn s n + wd s (posn s n) else posn s n
theorem posn_le (s : ByteArray) : ∀ n, posn s n ≤ s.size
  | 0 => Nat.zero_le _
  | n + 1 => by
    have := posn_le s n
    unfold posn
    split
    · rename_i h
      exact decode_in s _ h
    · exact this
theorem posn_step (s : ByteArray) (n : Nat) (h : posn s n < s.size) : posn s (n + 1) = posn s n + wd s (posn s n) := if_pos h
theorem posn_stay (s : ByteArray) (n : Nat) (h : ¬ posn s n < s.size) : posn s (n + 1) = posn s n := if_neg h
theorem posn_mono1 (s : ByteArray) (n : Nat) : posn s n ≤ posn s (n + 1) := by
  by_cases h : posn s n < s.size
  · rw [posn_step s n h]; omega
  · rw [posn_stay s n h]; exact Nat.le_refl _
theorem posn_mono (s : ByteArray) (n m : Nat) (h : n ≤ m) : posn s n ≤ posn s m := by
  induction m with
  | zero => obtain rfl : n = 0 := (by omega); exact Nat.le_refl _
  | succ m ih =>
    by_cases e : n = m + 1
    · subst e; exact Nat.le_refl _
    · exact Nat.le_trans (ih (by omega)) (posn_mono1 s m)
theorem posn_ge (s : ByteArray) : ∀ n, n ≤ posn s n ∨ posn s n = s.size
  | 0 => .inl (Nat.zero_le _)
  | n + 1 => by
    have hw := wd_pos s (posn s n)
    by_cases h : posn s n < s.size
    · rcases posn_ge s n with g | g
      · left; rw [posn_step s n h]; omega
      · omega
    · right
      rw [posn_stay s n h]
      have := posn_le s n
      omega
theorem posn_end (s : ByteArray) : posn s s.size = s.size := by
  rcases posn_ge s s.size with h | h
  · have := posn_le s s.size; omega
  · exact h
/-- Every place is one at which a sign begins, or within one. -/
theorem place (s : ByteArray) (a : Nat) (h : a ≤ s.size) : ∃ n, posn s n ≤ a ∧ (posn s n = a ∨ (posn s n < s.size ∧ a < posn s n + wd s (posn s n))) := by
  have key : ∀ m, a < posn s m → ∃ n, posn s n ≤ a ∧ a < posn s (n + 1) := by
    intro m
    induction m with
    | zero => intro h0; exact absurd h0 (by show ¬ a < 0; omega)
    | succ m ih =>
      intro hm
      by_cases c : a < posn s m
      · exact ih c
      · exact ⟨m, by omega, hm⟩
  by_cases ha : a = s.size
  · exact ⟨s.size, by rw [posn_end]; omega, .inl (by rw [posn_end]; omega)⟩
  · obtain ⟨n, h1, h2⟩ := key s.size (by rw [posn_end]; omega)
    have hlt : posn s n < s.size := by omega
    rw [posn_step s n hlt] at h2
    exact ⟨n, h1, .inr ⟨hlt, h2⟩⟩
/-- Strictly within a sign none begins. -/
theorem no_begin (s : ByteArray) (n m a : Nat) (h1 : posn s n < a) (h2 : a < posn s n + wd s (posn s n)) (hlt : posn s n < s.size) : posn s m ≠ a := by
  intro e
  by_cases c : m ≤ n
  · have := posn_mono s m n c; omega
  · have := posn_mono s (n + 1) m (by omega)
    rw [posn_step s n hlt] at this
    omega
/-- Where a byte stands that is no second, third or fourth one, a sign begins. -/
theorem lead_begins (s : ByteArray) (k : Nat) (h : k ≤ s.size) (hb : ¬ (128 ≤ bt s k 0 ∧ bt s k 0 ≤ 191)) : ∃ n, posn s n = k := by
  obtain ⟨n, h1, h2 | ⟨h2, h3⟩⟩ := place s k h
  · exact ⟨n, h2⟩
  · by_cases e : posn s n = k
    · exact ⟨n, e⟩
    · exfalso
      apply hb
      have hm := (multi s (posn s n) (by omega)).2.1 (k - posn s n) (by omega) (by omega)
      have := bt_add s (posn s n) (k - posn s n) 0
      rw [Nat.add_zero, show posn s n + (k - posn s n) = k from by omega] at this
      rw [this]
      exact hm
theorem withinGo_iff (s : ByteArray) (a : Nat) : ∀ n k, withinGo s a n k = true ↔ ∃ j, k ≤ j ∧ j < k + n ∧ a < j + wd s j
  | 0, k => by
    unfold withinGo
    constructor
    · intro h; cases h
    · rintro ⟨j, h1, h2, _⟩; omega
  | n + 1, k => by
    unfold withinGo
    by_cases h : a < k + (Utf8.decode s k).2
    · rw [if_pos h]
      exact ⟨fun _ => ⟨k, Nat.le_refl _, by omega, h⟩, fun _ => rfl⟩
    · rw [if_neg h, withinGo_iff s a n (k + 1)]
      constructor
      · rintro ⟨j, h1, h2, h3⟩
        exact ⟨j, by omega, by omega, h3⟩
      · rintro ⟨j, h1, h2, h3⟩
        refine ⟨j, ?_, by omega, h3⟩
        by_cases e : j = k
        · subst e; exact absurd h3 h
        · omega
/-- A place is within a sign just where none begins. -/
theorem within_iff (s : ByteArray) (a : Nat) (h : a ≤ s.size) : withinB s a = true ↔ ∀ n, posn s n ≠ a := by
  unfold withinB
  rw [withinGo_iff]
  constructor
  · rintro ⟨j, h1, h2, h3⟩
    have hm := multi s j (by omega)
    obtain ⟨n, hn⟩ := lead_begins s j (by omega) (by omega)
    intro m
    refine no_begin s n m a (by omega) (by rw [hn]; omega) (by omega)
  · intro hb
    obtain ⟨n, h1, h2 | ⟨h2, h3⟩⟩ := place s a h
    · exact absurd h2 (hb n)
    · have h4 := hb n
      have := wd_le4 s (posn s n)
      exact ⟨posn s n, by omega, by omega, h3⟩
end Go.Sg
