/-
  Laid together by merge.py of Hd He.
-/
import Derived.Test.YtlfiebapfgpchaaGreatDoorSqHc
import Derived.Deep.WholeRow
namespace Go.Proofs
open Go.RowKit Go.Wi Go.Dg
set_option maxRecDepth 20000 in
set_option maxHeartbeats 4000000 in
theorem Tryz.starts_any (w : World) : Calls Tryz.prog 90 #[] w fun e w' => e = .returned (.agg (Dg.start.l.map fun (n : Nat) => Value.int .u32 (n : Int)).toArray) ∧ Below w.heap.size w w' := by
  go_enter Tryz.func90, Tryz.ntmps90
  go_wp2
  exact bodyPost_ret (results_cell_row rfl _ _ w.heap.size _ _ _ _ rfl (heap_alloc_new w _) Tryz.underlying157 rfl (by kernel_rfl)) rfl ⟨rfl, (Below.refl _ w).alloc (Nat.le_refl _) _⟩
end Go.Proofs

namespace Go.Proofs
open Go.RowKit Go.Wi Go.Dg
/-- The numbers as they are built. -/
def Dg.built : Array Value := #[.int .u32 1116352408, .int .u32 1899447441, .int .u32 3049323471, .int .u32 3921009573, .int .u32 961987163, .int .u32 1508970993, .int .u32 2453635748, .int .u32 2870763221, .int .u32 3624381080, .int .u32 310598401, .int .u32 607225278, .int .u32 1426881987, .int .u32 1925078388, .int .u32 2162078206, .int .u32 2614888103, .int .u32 3248222580, .int .u32 3835390401, .int .u32 4022224774, .int .u32 264347078, .int .u32 604807628, .int .u32 770255983, .int .u32 1249150122, .int .u32 1555081692, .int .u32 1996064986, .int .u32 2554220882, .int .u32 2821834349, .int .u32 2952996808, .int .u32 3210313671, .int .u32 3336571891, .int .u32 3584528711, .int .u32 113926993, .int .u32 338241895, .int .u32 666307205, .int .u32 773529912, .int .u32 1294757372, .int .u32 1396182291, .int .u32 1695183700, .int .u32 1986661051, .int .u32 2177026350, .int .u32 2456956037, .int .u32 2730485921, .int .u32 2820302411, .int .u32 3259730800, .int .u32 3345764771, .int .u32 3516065817, .int .u32 3600352804, .int .u32 4094571909, .int .u32 275423344, .int .u32 430227734, .int .u32 506948616, .int .u32 659060556, .int .u32 883997877, .int .u32 958139571, .int .u32 1322822218, .int .u32 1537002063, .int .u32 1747873779, .int .u32 1955562222, .int .u32 2024104815, .int .u32 2227730452, .int .u32 2361852424, .int .u32 2428436474, .int .u32 2756734187, .int .u32 3204031479, .int .u32 3329325298]
theorem Dg.built_is : Dg.built = (Dg.rounds.map fun (n : Nat) => Value.int .u32 (n : Int)).toArray := by kernel_rfl
section
variable {P : Program} {ops : Array Oper} {Q : Exit → Act → World → Prop} {a : Act} {w w' : World} {rest : List Oper} {o : Oper}
/-- An operation that gives a value. -/
theorem Dg.step_value (hg : o.guard = none) {v : Value} (he : (execOp a.eval o).run P w = .ok (.value v) w') (h : wpList P ops Q rest (a.put o.dst v) w') : wpList P ops Q (o :: rest) a w :=
  wpList_plain hg fun K hK => by
    unfold Oper.wp
    rw [he]
    exact hK _ _ h
/-- An operation that gives none. -/
theorem Dg.step_skip (hg : o.guard = none) (he : (execOp a.eval o).run P w = .ok .skip w') (h : wpList P ops Q rest (a.put o.dst undef) w') : wpList P ops Q (o :: rest) a w :=
  wpList_plain hg fun K hK => by
    unfold Oper.wp
    rw [he]
    exact hK _ _ h
theorem Dg.run_store {t : TypeId} {p v : Operand} {pv vv : Value} (ho : o.op = .store t p v) (hp : a.eval p = pv) (hv : a.eval v = vv) (h : (Instr.storeAt t pv vv).run P w = .ok () w') : (execOp a.eval o).run P w = .ok .skip w' := by
  unfold execOp
  rw [ho]
  simp only [hp, hv, Sem.run_bind, h, Result.andThen, Sem.run_pure]
end
set_option maxRecDepth 20000 in
set_option maxHeartbeats 400000 in
theorem Tryz.rounds_any (w : World) : Calls Tryz.prog 91 #[] w fun e w' => e = .returned (.agg (Dg.rounds.map fun (n : Nat) => Value.int .u32 (n : Int)).toArray) ∧ Below w.heap.size w w' := by
  go_enter Tryz.func91, Tryz.ntmps91
  refine wp_seq (wp_region_lit (Dg.step_value rfl (v := .pointer (some ⟨w.heap.size, 0, none⟩)) (w' := w.alloc (.cells (Array.replicate 64 (.int .u32 0)) 183)) ?_ (wpList_nil ?_)))
  · kernel_rfl
  refine wp_seq (wp_region_lit (Dg.step_value rfl (v := .agg Dg.built) (w' := w.alloc (.cells (Array.replicate 64 (.int .u32 0)) 183)) ?_ (Dg.step_skip rfl (w' := w.alloc (.cells Dg.built 183)) ?_ (wpList_nil ?_))))
  · kernel_rfl
  · have st := run_storeAt_new (P := Tryz.prog) w 183 (Array.replicate 64 (.int .u32 0)) Dg.built (by kernel_rfl) (by kernel_rfl) (by kernel_rfl)
    exact Dg.run_store rfl rfl rfl st
  refine wp_ret ?_
  rw [← Dg.built_is]
  exact bodyPost_ret (results_cell_row rfl _ _ w.heap.size _ _ _ _ rfl (heap_alloc_new w _) Tryz.underlying183 rfl (by kernel_rfl)) rfl ⟨rfl, (Below.refl _ w).alloc (Nat.le_refl _) _⟩
end Go.Proofs
