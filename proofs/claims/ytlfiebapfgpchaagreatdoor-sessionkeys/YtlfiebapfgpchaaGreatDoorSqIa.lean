/-
  Laid together by merge.py of Ia.
-/
import Derived.Test.YtlfiebapfgpchaaGreatDoorSqH1
import Derived.Test.YtlfiebapfgpchaaGreatDoorSqLq
namespace Go.Proofs
open Go.RowKit Go.Wi Go.Dg
theorem Dg.neg31 : ∀ n : Nat, n < 32 → 0 < n → bits .and .u64 (IntKind.u64.wrap (-(n : Int))) 31 = ((32 - n : Nat) : Int) := by decide
set_option maxRecDepth 20000 in
theorem Tryz.rotl_any (x n : Nat) (hx : x < 4294967296) (hn : n < 32) (h0 : 0 < n) (w : World) :
    Calls Tryz.prog 99 #[.int .u32 (x : Int), .int .i64 (-(n : Int))] w fun e w' => e = .returned (.int .u32 ((rot x n : Nat) : Int)) ∧ w' = w := by
  have h3 := Dg.neg31 n hn h0
  go_enter Tryz.func99, Tryz.ntmps99
  go_wp2
  go_ret
  refine ⟨?_, rfl⟩
  have e0 : 32 - (32 - n) = n := by omega
  have h4 := u32_or_nat (x * 2 ^ (32 - n) % 4294967296) (x / 2 ^ n) (Nat.mod_lt _ (by decide)) (Nat.lt_of_le_of_lt (Nat.div_le_self _ _) hx)
  have e1 : ((x / 2 ^ n : Nat) : Int) = (x : Int) / 2 ^ n := by rw [Int.natCast_ediv, Int.natCast_pow]; rfl
  have e2 : ((x * 2 ^ (32 - n) % 4294967296 : Nat) : Int) = (x : Int) * 2 ^ (32 - n) % 4294967296 := by rw [Int.natCast_emod, Int.natCast_mul, Int.natCast_pow]; rfl
  rw [e1, e2] at h4
  show Ending.returned (.int .u32 _) = _
  rw [e0, h4, Nat.or_comm]
  rfl
set_option maxRecDepth 20000 in
theorem Tryz.turn_same (x n : Nat) (hx : x < 4294967296) (hn : n < 32) (h0 : 0 < n) (w : World) :
    Calls Tryz.prog 94 #[.int .u32 (x : Int), .int .i64 (n : Int)] w fun e w' => e = .returned (.int .u32 ((rot x n : Nat) : Int)) ∧ w' = w := by
  have h1 := Tryz.rotl_any x n hx hn h0
  go_enter Tryz.func94, Tryz.ntmps94
  go_wp2_with (first | (go_at_call 99; refine (h1 _).mono ?_; rintro z w1 ⟨rfl, rfl⟩) | fail)
  go_ret
  exact ⟨rfl, rfl⟩
theorem Tryz.turn_any (x n : Nat) (hx : x < 4294967296) (hn : n < 32) (h0 : 0 < n) (w : World) :
    Calls Tryz.prog 94 #[.int .u32 (x : Int), .int .i64 (n : Int)] w fun e w' => e = .returned (.int .u32 ((rot x n : Nat) : Int)) ∧ ∃ m, w' = w.drewN m :=
  (Tryz.turn_same x n hx hn h0 w).mono fun _ _ ⟨h1, h2⟩ => ⟨h1, 0, h2⟩
end Go.Proofs
