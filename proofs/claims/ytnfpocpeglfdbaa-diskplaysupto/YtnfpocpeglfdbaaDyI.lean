/-
  HOLDS: bytes that are their owner's: sign, what is held; append of a hold, of a sign.
-/
import Derived.Test.YtnfpocpeglfdbaaDj
import Derived.Test.YtnfpocpeglfdbaaVc
import Derived.ArgAppend
import Derived.Laws.AppendOwnNone
namespace Go.Proofs
open Go.RowKit Go.Wi
/-- What a mark looks like. -/
def Dk.sg (m i : Nat) : UInt8 := UInt8.ofNat ((m + i * (1 + m / 256)) % 256)
def Dk.sgs (m n : Nat) : List UInt8 := (List.range n).map (Dk.sg m)
theorem Dk.sgs_len (m n : Nat) : (Dk.sgs m n).length = n := by simp [Dk.sgs]
theorem Dk.sgs_succ (m n : Nat) : Dk.sgs m (n + 1) = Dk.sgs m n ++ [Dk.sg m n] := by simp [Dk.sgs, List.range_succ]
theorem Dk.sgs_at {m n j : Nat} (h : j < n) : (Dk.sgs m n)[j]? = some (Dk.sg m j) := by simp [Dk.sgs, h]
theorem Dk.w64 (n : Int) (h1 : -9223372036854775808 ≤ n) (h2 : n ≤ 9223372036854775807) : wrap64 n = n := by unfold wrap64; omega
theorem Dk.sg_int (m i : Nat) : ((m + i * (1 + m / 256) : Nat) : Int) % 256 = (((Dk.sg m i).toNat : Nat) : Int) := by
  unfold Dk.sg
  rw [UInt8.toNat_ofNat', Nat.mod_eq_of_lt (Nat.mod_lt _ (by decide))]
  generalize m + i * (1 + m / 256) = x
  omega
theorem Dk.sg_bound (i q : Nat) (hi : i ≤ 1000000000) (hq : 1 + q ≤ 3906251) : i * (1 + q) ≤ 4000000000000000 := Nat.le_trans (Nat.mul_le_mul hi hq) (by omega)
theorem Try.sign_any (m i : Nat) (hm : m ≤ 1000000000) (hi : i ≤ 1000000000) (w : World) :
    Calls Try.prog 24 #[.int .i64 (m : Nat), .int .i64 (i : Nat)] w fun e w' => e = .returned (.int .u8 ((Dk.sg m i).toNat : Nat)) ∧ w' = w := by
  have h0 := Dk.sg_int m i
  obtain ⟨q, hq⟩ : ∃ q : Nat, q = m / 256 := ⟨_, rfl⟩
  have e1 : (m : Int).tdiv 256 = (q : Int) := by rw [hq]; rfl
  rw [← hq] at h0
  have hq1 : 1 + q ≤ 3906251 := by omega
  have hb := Dk.sg_bound i q hi hq1
  have e3a : (i : Int) * (1 + (q : Int)) = ((i * (1 + q) : Nat) : Int) := by rw [Int.natCast_mul, Int.natCast_add]; rfl
  obtain ⟨P, hP⟩ : ∃ P, P = i * (1 + q) := ⟨_, rfl⟩
  rw [← hP] at h0 hb e3a
  clear hP
  have b0 : -9223372036854775808 ≤ (q : Int) ∧ (q : Int) ≤ 9223372036854775807 := by omega
  have b1 : -9223372036854775808 ≤ (m : Int) + (P : Int) ∧ (m : Int) + (P : Int) ≤ 9223372036854775807 := by omega
  have b2 : -9223372036854775808 ≤ (P : Int) ∧ (P : Int) ≤ 9223372036854775807 := by omega
  have b3 : -9223372036854775808 ≤ 1 + (q : Int) ∧ 1 + (q : Int) ≤ 9223372036854775807 := by omega
  have e2 : wrap64 (1 + (q : Int)) = 1 + (q : Int) := Dk.w64 _ b3.1 b3.2
  have e3 : wrap64 ((i : Int) * (1 + (q : Int))) = (P : Int) := by rw [e3a]; exact Dk.w64 _ b2.1 b2.2
  have e4 : wrap64 ((m : Int) + (P : Int)) = ((m + P : Nat) : Int) := (Dk.w64 _ b1.1 b1.2).trans (Int.natCast_add m P).symm
  have e0 : wrap64 (q : Int) = (q : Int) := Dk.w64 _ b0.1 b0.2
  clear b0 b1 b2 b3
  have Hq : Hid (q = m / 256) := hq
  clear hq hb hq1 hm hi e3a
  obtain ⟨R, hR⟩ : ∃ R, R = m + P := ⟨_, rfl⟩
  rw [← hR] at h0 e4
  clear hR
  go_enter Try.func24, Try.ntmps24
  go_wp2
  go_ret
  exact ⟨by rw [← h0]; rfl, rfl⟩
end Go.Proofs
