/-
  THE SUM, plain: bit by bit; up to 32 bits turned make another one. Nothing of the program.
-/
import Derived.WalkKit
namespace Go.Wi
/-- One bit of the sum. -/
def stepB (x : Nat) : Nat := x / 2 ^^^ (if x % 2 = 1 then 2197175160 else 0)
def stepN : Nat → Nat → Nat
  | 0, x => x
  | n + 1, x => stepN n (stepB x)
def byteB (c : Nat) (b : UInt8) : Nat := stepN 8 (c ^^^ b.toNat)
def crc (l : List UInt8) : Nat := l.foldl byteB 4294967295
def sum (l : List UInt8) : Nat := 4294967295 - crc l
theorem stepB_lt {x : Nat} (h : x < 4294967296) : stepB x < 4294967296 := by
  unfold stepB
  exact Nat.xor_lt_two_pow (n := 32) (by omega) (by split <;> decide)
theorem stepN_lt : ∀ (n x : Nat), x < 4294967296 → stepN n x < 4294967296
  | 0, _, h => h
  | n + 1, _, h => stepN_lt n _ (stepB_lt h)
theorem xor8_lt {c : Nat} (hc : c < 4294967296) (b : UInt8) : c ^^^ b.toNat < 4294967296 :=
  Nat.xor_lt_two_pow (n := 32) hc (by have := b.toNat_lt; omega)
theorem byteB_lt {c : Nat} (hc : c < 4294967296) (b : UInt8) : byteB c b < 4294967296 := stepN_lt _ _ (xor8_lt hc b)
theorem fold_lt : ∀ (l : List UInt8) (c : Nat), c < 4294967296 → l.foldl byteB c < 4294967296
  | [], _, h => h
  | b :: r, _, h => fold_lt r _ (byteB_lt h b)
theorem crc_lt (l : List UInt8) : crc l < 4294967296 := fold_lt l _ (by decide)
theorem crc_snoc (l : List UInt8) (b : UInt8) : crc (l ++ [b]) = byteB (crc l) b := by unfold crc; rw [List.foldl_append]; rfl
theorem stepN_snoc : ∀ (n x : Nat), stepN (n + 1) x = stepB (stepN n x)
  | 0, _ => rfl
  | n + 1, x => by
    show stepN (n + 1) (stepB x) = _
    rw [stepN_snoc n]; rfl
/-- A bit comes in. -/
def bitB (c : Nat) (d : Bool) : Nat := stepB (c ^^^ d.toNat)
def val : List Bool → Nat
  | [] => 0
  | d :: r => d.toNat + 2 * val r
theorem xor_even (x v : Nat) : (x ^^^ (2 * v)) / 2 = x / 2 ^^^ v ∧ (x ^^^ (2 * v)) % 2 = x % 2 := by
  constructor
  · rw [Nat.xor_div_two]; congr 1; omega
  · have := Nat.xor_mod_two_pow (a := x) (b := 2 * v) (n := 1)
    rw [Nat.pow_one, Nat.mul_mod_right, Nat.xor_zero] at this
    exact this
theorem stepB_even (x v : Nat) : stepB (x ^^^ (2 * v)) = stepB x ^^^ v := by
  obtain ⟨h1, h2⟩ := xor_even x v
  unfold stepB
  rw [h1, h2, Nat.xor_assoc, Nat.xor_assoc, Nat.xor_comm v]
theorem bit_add (d : Bool) (v : Nat) : d.toNat + 2 * v = d.toNat ^^^ (2 * v) := by
  have h := Nat.two_pow_add_eq_or_of_lt (i := 1) (b := d.toNat) (by cases d <;> decide) v
  rw [Nat.pow_one] at h
  rw [Nat.add_comm, h]
  apply Nat.eq_of_testBit_eq
  intro i
  rw [Nat.testBit_or, Nat.testBit_xor]
  cases i with
  | zero => simp
  | succ i => cases d <;> simp [Nat.testBit_succ]
/-- Bits that come in are the same as all of them at once, ahead. -/
theorem run_val : ∀ (ds : List Bool) (c : Nat), ds.foldl bitB c = stepN ds.length (c ^^^ val ds)
  | [], c => by simp [val, stepN]
  | d :: r, c => by
    rw [List.foldl_cons, run_val r]
    show _ = stepN r.length (stepB (c ^^^ (d.toNat + 2 * val r)))
    rw [bit_add, ← Nat.xor_assoc, stepB_even]
    rfl
theorem val_lt : ∀ (ds : List Bool), val ds < 2 ^ ds.length
  | [] => by decide
  | d :: r => by
    have := val_lt r
    rw [List.length_cons, Nat.pow_succ]
    cases d <;> simp [val] <;> omega
theorem val_inj : ∀ (a b : List Bool), a.length = b.length → val a = val b → a = b
  | [], [], _, _ => rfl
  | x :: a, y :: b, hl, h => by
    simp only [val] at h
    have hx : x = y := by cases x <;> cases y <;> first | rfl | (simp at h; omega)
    subst hx
    rw [val_inj a b (by simpa using hl) (by omega)]
theorem xor_inj {x y v : Nat} (h : x ^^^ v = y ^^^ v) : x = y := by
  have := congrArg (· ^^^ v) h
  simpa [Nat.xor_assoc] using this
theorem stepB_inj {x y : Nat} (hx : x < 4294967296) (hy : y < 4294967296) (h : stepB x = stepB y) : x = y := by
  unfold stepB at h
  have hP : ∀ z, z < 2147483648 → (z ^^^ 2197175160).testBit 31 = true := fun z hz => by
    rw [Nat.testBit_xor, Nat.testBit_lt_two_pow (x := z) (i := 31) hz]; rfl
  have h0 : ∀ z, z < 2147483648 → z.testBit 31 = false := fun z hz => Nat.testBit_lt_two_pow hz
  by_cases h1 : x % 2 = 1
  · by_cases h2 : y % 2 = 1
    · rw [if_pos h1, if_pos h2] at h
      have := xor_inj h
      omega
    · rw [if_pos h1, if_neg h2, Nat.xor_zero] at h
      have := hP (x / 2) (by omega)
      rw [h, h0 _ (by omega)] at this
      cases this
  · by_cases h2 : y % 2 = 1
    · rw [if_neg h1, if_pos h2, Nat.xor_zero] at h
      have := hP (y / 2) (by omega)
      rw [← h, h0 _ (by omega)] at this
      cases this
    · rw [if_neg h1, if_neg h2, Nat.xor_zero, Nat.xor_zero] at h
      omega
theorem stepN_inj : ∀ (n x y : Nat), x < 4294967296 → y < 4294967296 → stepN n x = stepN n y → x = y
  | 0, _, _, _, _, h => h
  | n + 1, _, _, hx, hy, h => stepB_inj hx hy (stepN_inj n _ _ (stepB_lt hx) (stepB_lt hy) h)
theorem bitB_lt {c : Nat} (hc : c < 4294967296) (d : Bool) : bitB c d < 4294967296 :=
  stepB_lt (Nat.xor_lt_two_pow (n := 32) hc (by cases d <;> decide))
theorem run_lt : ∀ (ds : List Bool) (c : Nat), c < 4294967296 → ds.foldl bitB c < 4294967296
  | [], _, h => h
  | d :: r, _, h => run_lt r _ (bitB_lt h d)
/-- What is the same behind the same bits was the same ahead. -/
theorem run_inj : ∀ (ds : List Bool) (c d : Nat), c < 4294967296 → d < 4294967296 → ds.foldl bitB c = ds.foldl bitB d → c = d
  | [], _, _, _, _, h => h
  | e :: r, c, d, hc, hd, h => xor_inj (stepB_inj (Nat.xor_lt_two_pow (n := 32) hc (by cases e <;> decide)) (Nat.xor_lt_two_pow (n := 32) hd (by cases e <;> decide)) (run_inj r _ _ (bitB_lt hc e) (bitB_lt hd e) h))
/-- A window of up to 32 bits is seen. -/
theorem run_window (c : Nat) (hc : c < 4294967296) (p q z : List Bool) (hl : p.length = q.length) (h32 : p.length ≤ 32) (h : (p ++ z).foldl bitB c = (q ++ z).foldl bitB c) : p = q := by
  rw [List.foldl_append, List.foldl_append] at h
  have h1 := run_inj z _ _ (run_lt p c hc) (run_lt q c hc) h
  rw [run_val, run_val, hl] at h1
  have hp : val p < 4294967296 := Nat.lt_of_lt_of_le (val_lt p) (Nat.pow_le_pow_right (n := 2) (j := 32) (by decide) h32)
  have hq : val q < 4294967296 := Nat.lt_of_lt_of_le (val_lt q) (Nat.pow_le_pow_right (n := 2) (j := 32) (by decide) (by omega))
  have h2 := stepN_inj _ _ _ (Nat.xor_lt_two_pow (n := 32) hc hp) (Nat.xor_lt_two_pow (n := 32) hc hq) h1
  rw [Nat.xor_comm, Nat.xor_comm c] at h2
  exact val_inj p q hl (xor_inj h2)
/-- The bits of bytes, the lowest of each first. -/
def bits8 (b : UInt8) : List Bool := (List.range 8).map fun i => b.toNat.testBit i
def bitsOf (l : List UInt8) : List Bool := l.flatMap bits8
theorem val_bits8 (b : UInt8) : val (bits8 b) = b.toNat := by
  have h := b.toNat_lt
  have hr : List.range 8 = [0, 1, 2, 3, 4, 5, 6, 7] := rfl
  have hd : ∀ m : Nat, (decide (m % 2 = 1)).toNat = m % 2 := fun m => by
    by_cases h : m % 2 = 1
    · simp [h]
    · have : m % 2 = 0 := by omega
      simp [this]
  simp only [bits8, hr, List.map_cons, List.map_nil, val, Nat.testBit_eq_decide_div_mod_eq, hd]
  omega
theorem byteB_run (c : Nat) (b : UInt8) : byteB c b = (bits8 b).foldl bitB c := by
  rw [run_val, val_bits8]; rfl
theorem crc_bits : ∀ (l : List UInt8) (c : Nat), l.foldl byteB c = (bitsOf l).foldl bitB c
  | [], _ => rfl
  | b :: r, c => by
    rw [List.foldl_cons, crc_bits r, byteB_run]
    show _ = (bits8 b ++ bitsOf r).foldl bitB c
    rw [List.foldl_append]
/-- The j-th bit. -/
def bit (l : List UInt8) (j : Nat) : Bool := (l.getD (j / 8) 0).toNat.testBit (j % 8)
theorem bitsOf_len (l : List UInt8) : (bitsOf l).length = 8 * l.length := by
  induction l with
  | nil => rfl
  | cons b r ih => 
    show (bits8 b ++ bitsOf r).length = _
    rw [List.length_append, ih]; simp [bits8]; omega
theorem bitsOf_get : ∀ (l : List UInt8) (j : Nat), j < 8 * l.length → (bitsOf l)[j]? = some (bit l j)
  | [], j, h => by simp at h
  | b :: r, j, h => by
    have h8 : (bits8 b).length = 8 := by simp [bits8]
    show (bits8 b ++ bitsOf r)[j]? = _
    by_cases hj : j < 8
    · rw [List.getElem?_append_left (by omega)]
      have : j / 8 = 0 := by omega
      have hm : j % 8 = j := by omega
      simp [bits8, bit, this, hm, hj]
    · rw [List.getElem?_append_right (by omega), h8, bitsOf_get r (j - 8) (by simp at h; omega)]
      have h1 : j / 8 = (j - 8) / 8 + 1 := by omega
      have h2 : j % 8 = (j - 8) % 8 := by omega
      unfold bit
      rw [h1, h2, List.getD_cons_succ]
/-- Bytes that differ within 32 bits alone have another sum. -/
theorem crc_other (a b : List UInt8) (hl : a.length = b.length) (k : Nat) (h : ∀ j, j < 8 * a.length → (j < k ∨ k + 32 ≤ j) → bit a j = bit b j) (he : crc a = crc b) : ∀ j, j < 8 * a.length → bit a j = bit b j := by
  have hla := bitsOf_len a
  have hlb := bitsOf_len b
  unfold crc at he
  rw [crc_bits, crc_bits] at he
  have e1 : (bitsOf a).take k = (bitsOf b).take k := by
    apply List.ext_getElem?
    intro j
    rw [List.getElem?_take, List.getElem?_take]
    split
    · by_cases hj : j < 8 * a.length
      · rw [bitsOf_get a j hj, bitsOf_get b j (by omega), h j hj (.inl (by omega))]
      · rw [List.getElem?_eq_none (by omega), List.getElem?_eq_none (by omega)]
    · rfl
  have e2 : (bitsOf a).drop (k + 32) = (bitsOf b).drop (k + 32) := by
    apply List.ext_getElem?
    intro j
    rw [List.getElem?_drop, List.getElem?_drop]
    by_cases hj : k + 32 + j < 8 * a.length
    · rw [bitsOf_get a _ hj, bitsOf_get b _ (by omega), h _ hj (.inr (by omega))]
    · rw [List.getElem?_eq_none (by omega), List.getElem?_eq_none (by omega)]
  have sp : ∀ l : List Bool, l = l.take k ++ ((l.drop k).take 32 ++ l.drop (k + 32)) := fun l => by
    rw [← List.drop_drop, List.take_append_drop, List.take_append_drop]
  rw [sp (bitsOf a), sp (bitsOf b), ← e1, ← e2, List.foldl_append (l := List.take k _), List.foldl_append (l := List.take k _)] at he
  have hw := run_window _ (run_lt _ _ (by decide)) _ _ _ (by simp [hla, hlb, hl]) (by simp; omega) he
  have hb : bitsOf a = bitsOf b := by rw [sp (bitsOf a), sp (bitsOf b), e1, e2, hw]
  intro j hj
  have := bitsOf_get a j hj
  rw [hb, bitsOf_get b j (by omega)] at this
  exact (Option.some.inj this).symm
end Go.Wi
