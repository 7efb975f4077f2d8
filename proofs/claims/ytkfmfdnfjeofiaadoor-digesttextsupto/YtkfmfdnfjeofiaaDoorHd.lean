/-
  The document's sum: the numbers that it begins with.
-/
import Derived.Test.YtkfmfdnfjeofiaaDoorHc
namespace Go.Proofs
open Go.RowKit Go.Wi Go.Dg
set_option maxRecDepth 20000 in
set_option maxHeartbeats 4000000 in
theorem Tryd.starts_any (w : World) : Calls Tryd.prog 31 #[] w fun e w' => e = .returned (.agg (Dg.start.l.map fun (n : Nat) => Value.int .u32 (n : Int)).toArray) ∧ Below w.heap.size w w' := by
  go_enter Tryd.func31, Tryd.ntmps31
  go_wp2
  exact bodyPost_ret (results_cell_row rfl _ _ w.heap.size _ _ _ _ rfl (heap_alloc_new w _) Tryd.underlying60 rfl (by kernel_rfl)) rfl ⟨rfl, (Below.refl _ w).alloc (Nat.le_refl _) _⟩
end Go.Proofs
