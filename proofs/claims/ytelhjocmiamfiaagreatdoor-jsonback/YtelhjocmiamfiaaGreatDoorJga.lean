/-
  What is read is sound, and is printed in no more bytes: signs, texts, numbers, words. Nothing of the program.
-/
import Derived.Test.YtelhjocmiamfiaaGreatDoorJrl
import Derived.Test.YtelhjocmiamfiaaGreatDoorJrt
namespace Go.Jv
open Go.Lib
theorem validD_add : ∀ (k : Nat) (l r : List UInt8), l.length ≤ k → validD l = true → validD r = true → validD (l ++ r) = true := by
  intro k
  induction k with
  | zero =>
    intro l r hl _ hr
    obtain rfl := List.eq_nil_of_length_eq_zero (Nat.le_zero.1 hl)
    exact hr
  | succ k ih =>
    intro l r hl hv hr
    by_cases hne : l = []
    · subst hne; exact hr
    · rw [validD_step _ hne] at hv
      split at hv
      · cases hv
      · rename_i hw
        have hpos := decL_pos l
        have hle := decodeL_le l hne
        have hsplit : l ++ r = l.take (decodeL l).2 ++ (l.drop (decodeL l).2 ++ r) := by rw [← List.append_assoc, List.take_append_drop]
        have hD : decodeL (l ++ r) = decodeL l := by rw [hsplit, decL_take hne hw]
        rw [validD_step _ (by simp [hne]), hD, if_neg hw, List.drop_append_of_le_length hle]
        exact ih _ _ (by simp; omega) hv hr
/-- How a sign is written: sound, all its bytes great but where it is one of the first 128. -/
theorem enc_any (r : Nat) : validD (encodeRune (r : Int)) = true ∧ (encodeRune (r : Int)).length ≤ 4 ∧ (r < 128 → (encodeRune (r : Int)).length = 1) ∧ (128 ≤ r → ∀ c ∈ encodeRune (r : Int), 128 ≤ c.toNat) := by
  have hU : ∀ x : Nat, x < 256 → (Nat.toUInt8 x).toNat = x := fun x hx => by simp [Nat.toUInt8, UInt8.toNat_ofNat']; omega
  by_cases h1 : r < 128
  · have e : encodeRune (r : Int) = [Nat.toUInt8 r] := by
      unfold encodeRune encodeRuneZ
      rw [if_pos (by omega)]
      simp
    rw [e]
    refine ⟨?_, by simp, fun _ => rfl, fun h => by omega⟩
    rw [validD_cons _ _ (by rw [hU r (by omega)]; exact h1)]
    rfl
  · by_cases h2 : r ≤ 2047
    · have e : encodeRune (r : Int) = [Nat.toUInt8 (192 + r / 64), Nat.toUInt8 (128 + r % 64)] := by
        unfold encodeRune encodeRuneZ
        rw [if_neg (by omega), if_pos (by omega)]
        simp only [List.map_cons, List.map_nil]
        congr 2
      rw [e]
      have a0 := hU (192 + r / 64) (by omega)
      have a1 := hU (128 + r % 64) (by omega)
      refine ⟨?_, by simp, fun h => by omega, fun _ c hc => ?_⟩
      · have hD : decodeL [Nat.toUInt8 (192 + r / 64), Nat.toUInt8 (128 + r % 64)] = (r, 2) := by
          rw [decodeL_N]
          simp only [List.getD_cons_zero, List.getD_cons_succ, List.length_cons, List.length_nil, a0, a1]
          unfold decodeN
          rw [if_neg (by omega), if_pos (by omega), if_pos (by omega)]
          congr 1
          omega
        rw [validD_step _ (by simp), hD, if_neg (by simp)]
        rfl
      · simp only [List.mem_cons, List.not_mem_nil, or_false] at hc
        rcases hc with rfl | rfl
        · omega
        · omega
    · by_cases h3 : (2048 ≤ r ∧ r < 55296) ∨ (57343 < r ∧ r ≤ 65535)
      · have e : encodeRune (r : Int) = [Nat.toUInt8 (224 + r / 4096), Nat.toUInt8 (128 + r / 64 % 64), Nat.toUInt8 (128 + r % 64)] := by
          unfold encodeRune encodeRuneZ
          rw [if_neg (by omega), if_neg (by omega), if_pos (by omega)]
          simp only [List.map_cons, List.map_nil]
          congr 2
        rw [e]
        have a0 := hU (224 + r / 4096) (by omega)
        have a1 := hU (128 + r / 64 % 64) (by omega)
        have a2 := hU (128 + r % 64) (by omega)
        refine ⟨?_, by simp, fun h => by omega, fun _ c hc => ?_⟩
        · have hD : decodeL [Nat.toUInt8 (224 + r / 4096), Nat.toUInt8 (128 + r / 64 % 64), Nat.toUInt8 (128 + r % 64)] = (r, 3) := by
            rw [decodeL_N]
            simp only [List.getD_cons_zero, List.getD_cons_succ, List.length_cons, List.length_nil, a0, a1, a2]
            unfold decodeN
            rw [if_neg (by omega), if_neg (by omega), if_pos (by omega), if_pos (by omega)]
            congr 1
            omega
          rw [validD_step _ (by simp), hD, if_neg (by simp)]
          rfl
        · simp only [List.mem_cons, List.not_mem_nil, or_false] at hc
          rcases hc with rfl | rfl | rfl <;> omega
      · by_cases h4 : 65536 ≤ r ∧ r ≤ 1114111
        · have e : encodeRune (r : Int) = [Nat.toUInt8 (240 + r / 262144), Nat.toUInt8 (128 + r / 4096 % 64), Nat.toUInt8 (128 + r / 64 % 64), Nat.toUInt8 (128 + r % 64)] := by
            unfold encodeRune encodeRuneZ
            rw [if_neg (by omega), if_neg (by omega), if_neg (by omega), if_pos (by omega)]
            simp only [List.map_cons, List.map_nil]
            congr 2
          rw [e]
          have a0 := hU (240 + r / 262144) (by omega)
          have a1 := hU (128 + r / 4096 % 64) (by omega)
          have a2 := hU (128 + r / 64 % 64) (by omega)
          have a3 := hU (128 + r % 64) (by omega)
          refine ⟨?_, by simp, fun h => by omega, fun _ c hc => ?_⟩
          · have hD : decodeL [Nat.toUInt8 (240 + r / 262144), Nat.toUInt8 (128 + r / 4096 % 64), Nat.toUInt8 (128 + r / 64 % 64), Nat.toUInt8 (128 + r % 64)] = (r, 4) := by
              rw [decodeL_N]
              simp only [List.getD_cons_zero, List.getD_cons_succ, List.length_cons, List.length_nil, a0, a1, a2, a3]
              unfold decodeN
              rw [if_neg (by omega), if_neg (by omega), if_neg (by omega), if_pos (by omega), if_pos (by omega)]
              congr 1
              omega
            rw [validD_step _ (by simp), hD, if_neg (by simp)]
            rfl
          · simp only [List.mem_cons, List.not_mem_nil, or_false] at hc
            rcases hc with rfl | rfl | rfl | rfl <;> omega
        · have e : encodeRune (r : Int) = [239, 191, 189] := by
            unfold encodeRune encodeRuneZ
            rw [if_neg (by omega), if_neg (by omega), if_neg (by omega), if_neg (by omega)]
            rfl
          rw [e]
          exact ⟨by decide, by simp, fun h => by omega, fun _ c hc => by simp only [List.mem_cons, List.not_mem_nil, or_false] at hc; rcases hc with rfl | rfl | rfl <;> decide⟩
theorem enc_q6 (r : Nat) : (qBytes (encodeRune (r : Int))).length ≤ 6 := by
  obtain ⟨-, h1, h2, h3⟩ := enc_any r
  by_cases h : r < 128
  · have h4 := h2 h
    match hl : encodeRune (r : Int), h4 with
    | [c], _ =>
      have := (qByte_len c).2
      simpa [qBytes] using this
  · rw [qBytes_high _ (h3 (by omega))]
    omega
/-- Places. -/
theorem runTo_le (f : UInt8 → Bool) (t : ByteArray) : ∀ (n p : Nat), p ≤ runTo f t n p ∧ (p ≤ t.size → runTo f t n p ≤ t.size)
  | 0, p => ⟨Nat.le_refl _, fun h => h⟩
  | n + 1, p => by
    rw [runTo]
    split
    · rename_i h
      have := runTo_le f t n (p + 1)
      exact ⟨by omega, fun _ => this.2 h.1⟩
    · exact ⟨Nat.le_refl _, fun h => h⟩
theorem run_le (f : UInt8 → Bool) (t : ByteArray) (p : Nat) : p ≤ run f t p ∧ (p ≤ t.size → run f t p ≤ t.size) := runTo_le f t _ p
theorem next_ok {t : ByteArray} {p : Nat} {c : UInt8} (h : next t p = .ok c) : p < t.size ∧ t.get! p = c := by
  unfold next at h
  split at h
  · rename_i hp; injection h with h; exact ⟨hp, h⟩
  · cases h
theorem take_ok {t : ByteArray} {p q : Nat} {c : UInt8} (h : take t p c = .ok q) : q = p + 1 ∧ p < t.size := by
  unfold take at h
  split at h
  · rename_i hp; injection h with h; exact ⟨h.symm, hp.1⟩
  · cases h
theorem sub_size {t : ByteArray} {p q : Nat} (h1 : p ≤ q) (h2 : q ≤ t.size) : (sub t p q).data.toList.length = q - p := by
  rw [← Lib.size_eq]
  unfold sub
  rw [ByteArray.size_extract]
  omega
theorem word_gd {t : ByteArray} {p q : Nat} {v : V} (hp : p ≤ t.size) (h : word t p = .ok (v, q)) : (∀ d, Gd d v) ∧ p + (pr v).length ≤ q ∧ q ≤ t.size := by
  obtain ⟨r1, r2⟩ := run_le isLetter t p
  have hs := sub_size r1 (r2 hp)
  unfold word at h
  simp only at h
  split at h
  · rename_i e
    rw [e] at hs
    injection h with h
    injection h with h h'
    subst h h'
    refine ⟨fun d => by cases d <;> trivial, ?_, r2 hp⟩
    simp [pr] at hs ⊢
    omega
  · split at h
    · rename_i e
      rw [e] at hs
      injection h with h
      injection h with h h'
      subst h h'
      refine ⟨fun d => by cases d <;> trivial, ?_, r2 hp⟩
      simp [pr] at hs ⊢
      omega
    · split at h
      · rename_i e
        rw [e] at hs
        injection h with h
        injection h with h h'
        subst h h'
        refine ⟨fun d => by cases d <;> trivial, ?_, r2 hp⟩
        simp [pr] at hs ⊢
        omega
      · cases h
theorem nDigits_le {u k : Nat} (hk : 1 ≤ k) (h : u < 10 ^ k) : nDigits u ≤ k := by
  induction k generalizing u with
  | zero => omega
  | succ k ih =>
    by_cases h1 : u < 10
    · rw [nDigits_small h1]; omega
    · rw [nDigits_big h1]
      rw [Nat.pow_succ] at h
      by_cases hk0 : k = 0
      · subst hk0; simp at h; omega
      · have := ih (u := u / 10) (by omega) (by omega)
        omega
theorem parseM_lt (M : Nat) : ∀ (l : List UInt8) (acc u k : Nat), parseUintM M acc l = .ok u → acc < 10 ^ k → u < 10 ^ (k + l.length)
  | [], acc, u, k, h, ha => by
    rw [parseUintM] at h
    injection h with h
    subst h
    simpa using ha
  | c :: r, acc, u, k, h, ha => by
    rw [parseUintM] at h
    split at h
    · rename_i hc
      split at h
      · cases h
      · split at h
        · cases h
        · have := parseM_lt M r _ u (k + 1) h (by rw [Nat.pow_succ]; omega)
          rw [List.length_cons]
          rw [show k + (r.length + 1) = k + 1 + r.length by omega]
          exact this
    · cases h
theorem parseU_len {l : List UInt8} {u : Nat} (h : parseUintB 64 l = .ok u) : nDigits u ≤ l.length := by
  unfold parseUintB at h
  split at h
  · cases h
  · rename_i hne
    have := parseM_lt _ l 0 u 0 h (by simp)
    rw [Nat.zero_add] at this
    exact nDigits_le (List.length_pos_iff.2 hne) this
theorem itoa_short {l : List UInt8} {n : Int} (h : parseIntB 64 l = .ok n) : (itoa n).length ≤ l.length := by
  unfold parseIntB at h
  split at h
  · cases h
  · rename_i c r
    simp only at h
    split at h
    · cases h
    · cases h
    · rename_i u hu
      split at h
      · cases h
      · split at h
        · cases h
        · injection h with h
          have hl := parseU_len hu
          by_cases hneg : c.toNat = 45
          · rw [if_pos hneg] at h
            rw [if_pos (.inr hneg)] at hl
            subst h
            unfold itoa
            split
            · rename_i hn
              rw [List.length_cons, decDigits_length, List.length_cons]
              have : (-(u : Int)).natAbs = u := by omega
              rw [this]
              omega
            · rename_i hn
              rw [decDigits_length, List.length_cons]
              have : (-(u : Int)).toNat = 0 := by omega
              rw [this, nDigits_small (by omega)]
              omega
          · rw [if_neg hneg] at h
            subst h
            unfold itoa
            rw [if_neg (by omega), decDigits_length]
            have : ((u : Int)).toNat = u := by omega
            rw [this]
            refine Nat.le_trans hl ?_
            split
            · simp
            · exact Nat.le_refl _
theorem number_gd {t : ByteArray} {p q : Nat} {v : V} (hp : p ≤ t.size) (h : number t p = .ok (v, q)) : (∀ d, Gd d v) ∧ p + (pr v).length ≤ q ∧ q ≤ t.size := by
  obtain ⟨r1, r2⟩ := run_le isOfNumber t p
  have hs := sub_size r1 (r2 hp)
  unfold number at h
  simp only at h
  split at h
  · split at h
    · rename_i n hn
      injection h with h
      injection h with h h'
      subst h h'
      unfold numOf at hn
      split at hn
      · rename_i m hm
        split at hn
        · rename_i hb
          injection hn with hn
          subst hn
          have := itoa_short hm
          refine ⟨fun d => by cases d <;> exact hb, ?_, r2 hp⟩
          rw [show pr (.int m) = itoa m by rw [pr]]
          omega
        · cases hn
      · cases hn
    · cases h
  · cases h
end Go.Jv
