/-
  The laws' 'pick'.
-/
import Derived.Test.YtejibjeidklnkaaGreatDoorJw
import Derived.Test.YtejibjeidklnkaaGreatDoorProg
namespace Go.Jv
def pk (c : Int) (n : Nat) : Nat := (if c < 0 then -(c + 1) else c).toNat % n
theorem pk_lt (c : Int) (n : Nat) (h : 0 < n) : pk c n < n := Nat.mod_lt _ h
end Go.Jv
namespace Go.Proofs
open Go.RowKit Go.Jv
set_option maxHeartbeats 1000000 in
theorem Tryz.pick_any (c : Int) (h0 : -9223372036854775808 ≤ c) (h1 : c ≤ 9223372036854775807) (n : Nat) (hn : 0 < n) (hn2 : n ≤ 9223372036854775807) (w : World) :
    Calls Tryz.prog 10 #[.int .i64 c, .int .i64 n] w fun e w' => e = .returned (.int .i64 (pk c n)) ∧ w' = w := by
  have hz : ((n : Int) == 0) = false := by rw [beq_eq_false_iff_ne]; omega
  have hz' : ¬ (n : Int) = 0 := by omega
  have hm : ∀ x : Int, 0 ≤ x → x.tmod n = ((x.toNat % n : Nat) : Int) := fun x hx => by
    rw [Int.tmod_eq_emod_of_nonneg hx, Int.natCast_emod, Int.toNat_of_nonneg hx]
  by_cases hc : c < 0
  · have h2 := hm (-(c + 1)) (by omega)
    have hpk : ((pk c n : Nat) : Int) = (-(c + 1)).tmod n := by rw [h2]; unfold pk; rw [if_pos hc]
    have hb : 0 ≤ (-(c + 1)).tmod n ∧ (-(c + 1)).tmod n < n := by rw [h2]; have := Nat.mod_lt (-(c + 1)).toNat hn; omega
    have HPK : Hid _ := hpk
    rw [Int.neg_tmod] at hb
    clear hpk h2 hm
    go_enter Tryz.func10, Tryz.ntmps10
    go_wp2
    go_ret
    rw [HPK.out, Int.neg_tmod]
    exact ⟨rfl, rfl⟩
  · have h2 := hm c (by omega)
    have hpk : ((pk c n : Nat) : Int) = c % n := by rw [← Int.tmod_eq_emod_of_nonneg (by omega), h2]; unfold pk; rw [if_neg hc]
    have hb : 0 ≤ c % n ∧ c % n < n := ⟨Int.emod_nonneg _ (by omega), Int.emod_lt_of_pos _ (by omega)⟩
    have HPK : Hid _ := hpk
    clear hpk h2 hm
    go_enter Tryz.func10, Tryz.ntmps10
    go_wp2
    go_ret
    rw [HPK.out]
    exact ⟨rfl, rfl⟩
end Go.Proofs
