/-
  Sum, and the document's.
-/
import Derived.Test.YtghpbagmpgphfaaVc
namespace Go.Proofs
open Go.RowKit Go.Wi
theorem Wi.not_bits {c : Nat} (hc : c < 4294967296) : bits .xor .u32 IntKind.u32.max (c : Int) = ((4294967295 - c : Nat) : Int) := by
  have h := u32_xor_nat 4294967295 c (by decide) hc
  have e : 4294967295 ^^^ c = 4294967295 - c := by
    apply Nat.eq_of_testBit_eq
    intro i
    rw [Nat.testBit_xor, show 4294967295 - c = 2 ^ 32 - (c + 1) by omega, Nat.testBit_two_pow_sub_succ hc, show 4294967295 = 2 ^ 32 - 1 from rfl, Nat.testBit_two_pow_sub_one]
    by_cases hi : i < 32
    · simp [hi]
    · have : c.testBit i = false := Nat.testBit_lt_two_pow (Nat.lt_of_lt_of_le hc (Nat.pow_le_pow_right (n := 2) (i := 32) (by decide) (by omega)))
      simp [hi, this]
  rw [e] at h
  exact h
theorem Wi.step_bits (y : Nat) (hy : y < 4294967296) : bits .xor .u32 ((y : Int) / 2) (bits .and .u32 2197175160 (-bits .and .u32 (y : Int) 1 % 4294967296)) = ((stepB y : Nat) : Int) := by
  have hb1 := u32_and_nat y 1 hy (by decide)
  rw [nat_mask1] at hb1
  have e1 : bits .and .u32 (y : Int) 1 = ((y % 2 : Nat) : Int) := hb1
  have e2 : (y : Int) / 2 = ((y / 2 : Nat) : Int) := by omega
  rw [e1, e2]
  have hxx := u32_xor_nat (y / 2) (if y % 2 = 1 then 2197175160 else 0) (by omega) (by split <;> decide)
  have hst : stepB y = y / 2 ^^^ (if y % 2 = 1 then 2197175160 else 0) := rfl
  rw [hst, ← hxx]
  by_cases hz : y % 2 = 1
  · rw [hz, if_pos rfl]; rfl
  · have hz' : y % 2 = 0 := by omega
    rw [hz', if_neg (by decide)]; rfl
set_option maxRecDepth 4000 in
set_option maxHeartbeats 1000000 in
theorem Try.sum_any {w : World} {v : Value} {b : List UInt8} (h : Bs w v b) (hb : b.length < 9223372036854775807) :
    Calls Try.prog 19 #[v] w fun e w' => e = .returned (.int .u32 (Wi.sum b)) ∧ w' = w := by
  obtain ⟨ad, cap, rfl, hcap, -, h1⟩ := h
  go_enter Try.func19, Try.ntmps19
  go_wp2
  go_loopw [3, 8] (fun s i wr => ∃ k : Nat, k ≤ b.length ∧ i = .int .i64 k ∧ s = .int .u32 (crc (b.take k)) ∧ wr = w) (fun _ i _ => b.length - (intOf i).toNat)
  case atStart => exact ⟨0, by omega, rfl, by simp [crc], rfl⟩
  case round =>
    obtain ⟨k, hk, rfl, rfl, rfl⟩ := hrel
    by_cases hkm : k < b.length
    · have q0 : (k : Int) < (b.length : Int) := by omega
      have hc : ∃ sb so, ad = some ⟨sb, so, none⟩ ∧ wr.cell? ⟨sb, so + k, none⟩ = some (.int .u8 (b[k].toNat : Nat)) := by
        rcases h1 with rfl | ⟨sb, so, e, _, h2⟩
        · simp at hkm
        · exact ⟨sb, so, e, h2 k _ (Wi.byteCell hkm)⟩
      obtain ⟨sb, so, rfl, hc⟩ := hc
      have hs := crc_lt (b.take k)
      have hx := b[k].toNat_lt
      have hsn : crc (b.take (k + 1)) = stepN 8 (crc (b.take k) ^^^ b[k].toNat) := by
        rw [← List.take_append_getElem hkm, crc_snoc]; rfl
      have hbx := u32_xor_nat (crc (b.take k)) b[k].toNat hs (by omega)
      have hlt := xor8_lt hs b[k]
      generalize crc (b.take k) ^^^ b[k].toNat = c0 at hbx hlt hsn
      have Hsn : Hid (crc (b.take (k + 1)) = stepN 8 c0) := hsn
      clear hsn
      go_wp2
      go_loopw [3, 16] (fun s i wx => ∃ m : Nat, m ≤ 8 ∧ i = .int .i64 m ∧ s = .int .u32 (stepN m c0) ∧ wx = wr) (fun _ i _ => 8 - (intOf i).toNat)
      case atStart => exact ⟨0, by omega, rfl, rfl, rfl⟩
      case round =>
        obtain ⟨m, hm, rfl, rfl, rfl⟩ := hrel
        have hlm := stepN_lt m c0 hlt
        have hnx := stepN_snoc m c0
        by_cases hm8 : m < 8
        · generalize stepN m c0 = y at *
          have q1 : (m : Int) < 8 := by omega
          have hst := Wi.step_bits y hlm
          rw [← hnx] at hst
          clear hnx
          go_wp2
          go_roundw
          case rel => exact ⟨m + 1, by omega, by go_num, rfl, trivial⟩
          case measure => simp [intOf]; omega
        · have q1 : ¬ (m : Int) < 8 := by omega
          clear hnx
          have hm' : m = 8 := by omega
          subst hm'
          go_wp2
          go_roundw
          case rel => exact ⟨k + 1, by omega, by go_num, by rw [Hsn.out], trivial⟩
          case measure => simp [intOf]; omega
    · have q0 : ¬ (k : Int) < (b.length : Int) := by omega
      have hkk : k = b.length := by omega
      subst hkk
      go_wp2
      go_ret
      simp [Wi.sum]
      exact Wi.not_bits (crc_lt b)
theorem Wi.bitB_eq (c : Nat) (d : Bool) : bitB c d = c / 2 ^^^ (if d.toNat = c % 2 then 0 else 2197175160) := by
  have h1 : (c ^^^ d.toNat) / 2 = c / 2 := by
    rw [Nat.xor_div_two]; cases d <;> simp
  have h2 : (c ^^^ d.toNat) % 2 = (c % 2) ^^^ d.toNat := by
    have := Nat.xor_mod_two_pow (a := c) (b := d.toNat) (n := 1)
    rw [Nat.pow_one] at this
    rw [this]; cases d <;> rfl
  unfold bitB stepB
  rw [h1, h2]
  have : c % 2 = 0 ∨ c % 2 = 1 := by omega
  rcases this with e | e <;> rw [e] <;> cases d <;> rfl
theorem Wi.bit_shr (n m : Nat) : (n : Int) / 2 ^ m % 2 = (((n.testBit m).toNat : Nat) : Int) := by
  have h : (n.testBit m).toNat = n / 2 ^ m % 2 := by
    rw [Nat.testBit_eq_decide_div_mod_eq]
    by_cases h : n / 2 ^ m % 2 = 1
    · simp [h]
    · have : n / 2 ^ m % 2 = 0 := by omega
      simp [this]
  rw [h]; simp
theorem Wi.bits8_take (b : UInt8) (c m : Nat) (hm : m < 8) : ((bits8 b).take (m + 1)).foldl bitB c = bitB (((bits8 b).take m).foldl bitB c) (b.toNat.testBit m) := by
  have h : (bits8 b)[m]? = some (b.toNat.testBit m) := by simp [bits8, hm]
  rw [List.take_add_one, h, List.foldl_append]; rfl
end Go.Proofs
