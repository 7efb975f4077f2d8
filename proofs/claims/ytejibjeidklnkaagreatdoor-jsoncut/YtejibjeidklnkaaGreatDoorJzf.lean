/-
  The laws' 'fault'.
-/
import Derived.Test.YtejibjeidklnkaaGreatDoorJz
namespace Go.Proofs
open Go.RowKit Go.Jv
set_option maxHeartbeats 2000000 in
/-- 'fault' of none. -/
theorem Tryz.lawFault_nil (w : World) : Calls Tryz.prog 11 #[.nilIface] w fun e w' => e = .returned (.tuple #[.int .i64 0, .int .i64 0, .bool true]) ∧ w' = w := by
  go_enter Tryz.func11, Tryz.ntmps11
  go_wp2
  go_ret3
  exact ⟨rfl, rfl⟩
theorem Tryz.assertFault2 (v : Value) (w : World) : (Instr.typeAssert (.iface 40 v) 29 40 true).run Tryz.prog w = .ok (.tuple #[v, .bool true]) w := by kernel_rfl
set_option maxRecDepth 100000 in
set_option maxHeartbeats 2000000 in
/-- 'fault' of one. -/
theorem Tryz.lawFault_some (w : World) (y p e : Nat) (h0 : w.cell? ⟨y, 0, none⟩ = some (.int .i64 p)) (h1 : w.cell? ⟨y, 1, none⟩ = some (.int .i64 e)) (he : e ≠ 0) :
    Calls Tryz.prog 11 #[.iface 40 (.pointer (some ⟨y, 0, none⟩))] w fun en w' => en = .returned (.tuple #[.int .i64 p, .int .i64 e, .bool true]) ∧ ∃ n, w' = w.drewN n := by
  have he' : ¬ (e : Int) = 0 := by omega
  have hta := Tryz.assertFault2
  go_enter Tryz.func11, Tryz.ntmps11
  go_wp2
  go_region
  go_wp2
  go_ret3
  exact ⟨by simp [he], 1, rfl⟩
end Go.Proofs
