/-
  COUNTS, NUMBERS, what a reader answers: plain. Nothing of the program.
-/
import Derived.WalkKit
namespace Go.Wi
/-- A count, written. -/
def cnt (n : Nat) : List UInt8 := if n < 128 then [UInt8.ofNat n] else UInt8.ofNat (128 + n % 128) :: cnt (n / 128)
termination_by n
decreasing_by omega
theorem cnt_lt {n : Nat} (h : n < 128) : cnt n = [UInt8.ofNat n] := by rw [cnt, if_pos h]
theorem cnt_ge {n : Nat} (h : 128 ≤ n) : cnt n = UInt8.ofNat (128 + n % 128) :: cnt (n / 128) := by rw [cnt, if_neg (by omega)]
theorem cnt_len : ∀ (j n : Nat), n < 128 ^ (j + 1) → 1 ≤ (cnt n).length ∧ (cnt n).length ≤ j + 1
  | j, n, h => by
    by_cases hn : n < 128
    · rw [cnt_lt hn]; simp
    · cases j with
      | zero => simp at h; omega
      | succ j =>
        rw [cnt_ge (by omega), List.length_cons]
        have := cnt_len j (n / 128) (by rw [Nat.pow_succ] at h; omega)
        omega
theorem cnt_len10 {n : Nat} (h : n < 18446744073709551616) : 1 ≤ (cnt n).length ∧ (cnt n).length ≤ 10 :=
  cnt_len 9 n (Nat.lt_of_lt_of_le h (by decide))
inductive Rc where
  | ok (n k : Nat)
  | bad (k : Nat)
/-- A count, read: the i-th byte comes. -/
def rdC : List UInt8 → Nat → Nat → Rc
  | [], i, _ => .bad i
  | b :: r, i, acc =>
    if (i = 9 ∧ 1 < b.toNat) ∨ (b.toNat = 0 ∧ 0 < i) then .bad i
    else if b.toNat < 128 then .ok (acc + b.toNat % 128 * 128 ^ i) (i + 1)
    else rdC r (i + 1) (acc + b.toNat % 128 * 128 ^ i)
theorem rdC_back : ∀ (l : List UInt8) (i acc n k : Nat), rdC l i acc = .ok n k → acc < 128 ^ i → i ≤ 9 →
    i < k ∧ k ≤ i + l.length ∧ k ≤ 10 ∧ n < 18446744073709551616 ∧ ∃ m, n = acc + m * 128 ^ i ∧ l.take (k - i) = cnt m ∧ (0 < i → m ≠ 0)
  | [], _, _, _, _, h, _, _ => by cases h
  | b :: r, i, acc, n, k, h, ha, hi => by
    have hb := b.toNat_lt
    have hp : 128 ^ i * 128 = 128 ^ (i + 1) := (Nat.pow_succ ..).symm
    rw [rdC] at h
    split at h
    · cases h
    · rename_i hn
      have hn1 : ¬ (i = 9 ∧ 1 < b.toNat) := fun e => hn (.inl e)
      have hn2 : ¬ (b.toNat = 0 ∧ 0 < i) := fun e => hn (.inr e)
      split at h
      · rename_i hl
        injection h with h1 h2
        subst h1 h2
        rw [Nat.mod_eq_of_lt hl]
        refine ⟨by omega, by simp, by omega, ?_, b.toNat, rfl, ?_, by omega⟩
        · by_cases h9 : i = 9
          · subst h9
            have : b.toNat ≤ 1 := by omega
            have h2 : (128 : Nat) ^ 9 = 9223372036854775808 := by decide
            rw [h2] at ha ⊢
            omega
          · have h1 : b.toNat * 128 ^ i ≤ 127 * 128 ^ i := Nat.mul_le_mul_right _ (by omega)
            have h2 : (128 : Nat) ^ (i + 1) ≤ 128 ^ 9 := Nat.pow_le_pow_right (by decide) (by omega)
            have h3 : (128 : Nat) ^ 9 = 9223372036854775808 := by decide
            omega
        · rw [cnt_lt hl, show i + 1 - i = 1 by omega]
          simp
      · rename_i hl
        have hi9 : i < 9 := by omega
        have h1 : b.toNat % 128 * 128 ^ i ≤ 127 * 128 ^ i := Nat.mul_le_mul_right _ (by omega)
        obtain ⟨e1, e2, e3, e4, m, e5, e6, e7⟩ := rdC_back r (i + 1) _ n k h (by omega) (by omega)
        have hm := e7 (by omega)
        have hd : (b.toNat % 128 + 128 * m) / 128 = m := by omega
        have hm2 : (b.toNat % 128 + 128 * m) % 128 = b.toNat % 128 := by omega
        refine ⟨by omega, by simp; omega, e3, e4, b.toNat % 128 + 128 * m, ?_, ?_, by omega⟩
        · rw [e5, ← hp, Nat.add_mul, Nat.add_assoc, Nat.mul_comm 128 m, Nat.mul_assoc m, Nat.mul_comm 128 (128 ^ i)]
        · rw [cnt_ge (by omega), hd, hm2, ← e6, show k - i = (k - (i + 1)) + 1 by omega, List.take_succ_cons]
          congr 1
          rw [show 128 + b.toNat % 128 = b.toNat by omega]
          simp
/-- What was written as a count is read as it. -/
theorem rdC_cnt : ∀ (m i acc : Nat) (rest : List UInt8), (0 < i → m ≠ 0) → m * 128 ^ i < 18446744073709551616 → i ≤ 9 → rdC (cnt m ++ rest) i acc = .ok (acc + m * 128 ^ i) (i + (cnt m).length)
  | m, i, acc, rest, h0, hm, hi => by
    have h9 : i = 9 → m ≤ 1 := fun e => by
      subst e
      have h2 : (128 : Nat) ^ 9 = 9223372036854775808 := by decide
      rw [h2] at hm
      omega
    by_cases hl : m < 128
    · have hb : (UInt8.ofNat m).toNat = m := by rw [UInt8.toNat_ofNat']; omega
      rw [cnt_lt hl, List.cons_append, rdC, if_neg (by rw [hb]; omega), if_pos (by rw [hb]; exact hl), hb, Nat.mod_eq_of_lt hl]
      rfl
    · have hb : (UInt8.ofNat (128 + m % 128)).toNat = 128 + m % 128 := by rw [UInt8.toNat_ofNat']; omega
      have hi9 : i < 9 := by omega
      have hp : 128 ^ i * 128 = 128 ^ (i + 1) := (Nat.pow_succ ..).symm
      have he : m % 128 * 128 ^ i + m / 128 * 128 ^ (i + 1) = m * 128 ^ i := by
        rw [← hp, Nat.mul_comm (128 ^ i) 128, ← Nat.mul_assoc, ← Nat.add_mul]
        congr 1; omega
      rw [cnt_ge (by omega), List.cons_append, rdC, if_neg (by rw [hb]; omega), if_neg (by rw [hb]; omega), hb, show (128 + m % 128) % 128 = m % 128 by omega,
        rdC_cnt (m / 128) (i + 1) _ rest (by omega) (by omega) (by omega), Nat.add_assoc, he, List.length_cons]
      congr 1; omega
termination_by m => m
decreasing_by omega
/-- A number as a count. -/
def zig (n : Int) : Nat := if 0 ≤ n then 2 * n.toNat else 2 * (-(n + 1)).toNat + 1
def unzig (m : Nat) : Int := if m % 2 = 0 then (m / 2 : Nat) else -((m / 2 : Nat) : Int) - 1
theorem unzig_zig (n : Int) : unzig (zig n) = n := by unfold unzig zig; split <;> split <;> omega
theorem zig_unzig (m : Nat) : zig (unzig m) = m := by unfold unzig zig; split <;> split <;> omega
theorem zig_lt {n : Int} (h1 : -9223372036854775808 ≤ n) (h2 : n ≤ 9223372036854775807) : zig n < 18446744073709551616 := by unfold zig; split <;> omega
theorem unzig_in {m : Nat} (h : m < 18446744073709551616) : -9223372036854775808 ≤ unzig m ∧ unzig m ≤ 9223372036854775807 := by unfold unzig; split <;> omega
/-- A reader: its bytes, its place, its fault. -/
structure Rs where
  t : List UInt8
  p : Nat
  f : Option Nat
def Rs.fail (s : Rs) (a : Nat) : Rs := match s.f with
  | none => { s with f := some a }
  | some _ => s
def Rs.cnt (s : Rs) : Nat × Rs := match s.f with
  | some _ => (0, s)
  | none => match rdC (s.t.drop s.p) 0 0 with
    | .ok n k => (n, { s with p := s.p + k })
    | .bad k => (0, { s with f := some (s.p + k) })
def Rs.int (s : Rs) : Int × Rs := (unzig s.cnt.1, s.cnt.2)
def Rs.flag (s : Rs) : Bool × Rs := match s.f with
  | some _ => (false, s)
  | none => if h : s.p < s.t.length then (if s.t[s.p].toNat ≤ 1 then (s.t[s.p].toNat == 1, { s with p := s.p + 1 }) else (false, { s with f := some s.p })) else (false, { s with f := some s.p })
def Rs.text (s : Rs) : List UInt8 × Rs :=
  if s.cnt.2.t.length - s.cnt.2.p < s.cnt.1 then ([], s.cnt.2.fail s.cnt.2.p) else ((s.cnt.2.t.drop s.cnt.2.p).take s.cnt.1, { s.cnt.2 with p := s.cnt.2.p + s.cnt.1 })
def Rs.fin (s : Rs) : Bool := s.f.isNone && s.p == s.t.length
/-- The reader stands within its bytes. -/
def Rs.In (s : Rs) : Prop := s.p ≤ s.t.length
theorem Rs.cnt_in (s : Rs) (h : s.In) : s.cnt.2.In ∧ s.cnt.2.t = s.t ∧ s.cnt.1 < 18446744073709551616 := by
  obtain ⟨t, p, f⟩ := s
  cases f with
  | some a => exact ⟨h, rfl, by show 0 < _; decide⟩
  | none =>
    simp only [Rs.cnt]
    unfold Rs.In at *
    split
    · rename_i n k e
      have := rdC_back _ 0 0 n k e (by decide) (by omega)
      simp only [List.length_drop] at this h
      exact ⟨by simp only; omega, rfl, this.2.2.2.1⟩
    · exact ⟨h, rfl, by show 0 < _; decide⟩
theorem Rs.fail_in (s : Rs) (a : Nat) (h : s.In) : (s.fail a).In ∧ (s.fail a).t = s.t ∧ (s.fail a).p = s.p := by
  obtain ⟨t, p, f⟩ := s
  cases f <;> exact ⟨h, rfl, rfl⟩
theorem Rs.flag_in (s : Rs) (h : s.In) : s.flag.2.In ∧ s.flag.2.t = s.t := by
  obtain ⟨t, p, f⟩ := s
  cases f with
  | some a => exact ⟨h, rfl⟩
  | none =>
    simp only [Rs.flag]
    unfold Rs.In at *
    simp only at h
    split
    · split
      · exact ⟨by simp only; omega, rfl⟩
      · exact ⟨h, rfl⟩
    · exact ⟨h, rfl⟩
theorem Rs.text_in (s : Rs) (h : s.In) : s.text.2.In ∧ s.text.2.t = s.t := by
  obtain ⟨h1, h2, h3⟩ := s.cnt_in h
  unfold Rs.text
  split
  · have := s.cnt.2.fail_in s.cnt.2.p h1
    exact ⟨this.1, this.2.1.trans h2⟩
  · unfold Rs.In at *
    exact ⟨by simp only; omega, h2⟩
end Go.Wi
