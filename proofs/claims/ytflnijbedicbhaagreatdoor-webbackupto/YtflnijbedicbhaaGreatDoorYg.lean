/-
  newResponse, response.
-/
import Derived.Test.YtflnijbedicbhaaGreatDoorYf
namespace Go.Proofs
open Go.RowKit Go.Wi Go.Wb
/-- A new response's cells. -/
def Tryz.nsCells : Array Value := Tryz.mc newRes (.slice none 0 0) (.slice none 0 0) (.slice none 0 0)
set_option maxRecDepth 20000 in
set_option maxHeartbeats 1000000 in
theorem Tryz.newResponse_any (w : World) :
    Calls Tryz.prog 31 #[] w fun e w' => e = .returned (.agg Tryz.nsCells) ∧ Below w.heap.size w w' := by
  go_enter Tryz.func31, Tryz.ntmps31
  go_upto_region 1 with (fail)
  generalize hW : w.alloc _ = W
  have hg : W.heap[w.heap.size]? = some (.cells (Tryz.mc zero (.slice none 0 0) (.slice none 0 0) (.slice none 0 0)) 75 (0, 0)) := by rw [← hW]; exact heap_alloc_new w _
  have hb : Below w.heap.size w W := by rw [← hW]; exact (Below.refl _ w).alloc (Nat.le_refl _) _
  clear hW
  refine wp_region_lit ?_
  refine Wb.step_value rfl (v := .agg #[Tryz.tkV .inVersion, Tryz.thV .statusFollows]) (w' := W) (by kernel_rfl) ?_
  refine Wb.step_value rfl (v := .agg Tryz.nsCells) (w' := W) (by kernel_rfl) ?_
  have hth : W.there w.heap.size 0 22 := fun j hj => by
    rw [Nat.zero_add]
    exact ⟨by rw [cell_of_row _ _ j _ _ _ hg, Array.getElem?_eq_getElem (by rw [Tryz.mc_size]; exact hj)]; rfl, frozen_of_row _ _ j _ _ hg⟩
  refine wpList_store_mid rfl 75 _ _ rfl w.heap.size 0 _ rfl rfl hth (by kernel_rfl) (by kernel_rfl) ?_
  have hr := Wb.setCells_row w.heap.size 75 Tryz.nsCells.toList 0 W _ hg (Nat.le_of_eq rfl)
  have hb2 : Below w.heap.size w (W.setCells w.heap.size 0 Tryz.nsCells.toList) := Wo.toBelow hb (Wb.setCells_wo (own := fun k => w.heap.size ≤ k) w.heap.size (Nat.le_refl _) _ 0 W W (Wo.refl _ _)) (fun k e => e) hb.size
  generalize W.setCells _ _ _ = W2 at *
  go_wp2
  exact bodyPost_ret (results_cell_row rfl _ _ w.heap.size _ _ _ _ rfl hr Tryz.underlying75 rfl (by kernel_rfl)) rfl ⟨rfl, hb2⟩
set_option maxRecDepth 20000 in
set_option maxHeartbeats 2000000 in
theorem Tryz.response_any {T : TypeId} {w : World} {own : Nat → Prop} {b : Nat} {m : Msg} {aw ah ab : Option Addr} {cw ch cb : Nat} (h : Tryz.Mw T w own b m aw cw ah ch ab cb) :
    Calls Tryz.prog 35 #[.pointer (some ⟨b, 0, none⟩)] w fun e w' => e = .returned (.agg #[.int .i64 m.status, .slice ah m.headers.length ch, .slice ab m.body.length cb, .bool m.last]) ∧ Below w.heap.size w w' := by
  have hlt := h.lt b h.ob
  have hblk := h.blk
  clear h
  go_enter Tryz.func35, Tryz.ntmps35
  go_upto_region 1 with (fail)
  generalize hW : w.alloc _ = W
  have hg : W.heap[w.heap.size]? = some (.cells #[.int .i64 0, .slice none 0 0, .slice none 0 0, .bool false] 31 (0, 0)) := by rw [← hW]; exact heap_alloc_new w _
  have hb : Below w.heap.size w W := by rw [← hW]; exact (Below.refl _ w).alloc (Nat.le_refl _) _
  clear hW
  have hB := (hb.block b hlt).trans hblk
  have c9 : W.cell? ⟨b, 9, none⟩ = some (.int .i64 m.status) := (cell_of_row _ _ 9 _ _ _ hB).trans rfl
  have c13 : W.cell? ⟨b, 13, none⟩ = some (.slice ah m.headers.length ch) := (cell_of_row _ _ 13 _ _ _ hB).trans rfl
  have c19 : W.cell? ⟨b, 19, none⟩ = some (.slice ab m.body.length cb) := (cell_of_row _ _ 19 _ _ _ hB).trans rfl
  have c15 : W.cell? ⟨b, 15, none⟩ = some (.bool m.last) := (cell_of_row _ _ 15 _ _ _ hB).trans rfl
  have g0 : W.cell? ⟨w.heap.size, 0, none⟩ = some (.int .i64 0) := cell_of_row _ _ 0 _ _ _ hg
  have g1 : W.cell? ⟨w.heap.size, 1, none⟩ = some (.slice none 0 0) := cell_of_row _ _ 1 _ _ _ hg
  have g2 : W.cell? ⟨w.heap.size, 2, none⟩ = some (.slice none 0 0) := cell_of_row _ _ 2 _ _ _ hg
  have g3 : W.cell? ⟨w.heap.size, 3, none⟩ = some (.bool false) := cell_of_row _ _ 3 _ _ _ hg
  have z0 := frozen_of_row W w.heap.size 0 _ _ hg
  have z1 := frozen_of_row W w.heap.size 1 _ _ hg
  have z2 := frozen_of_row W w.heap.size 2 _ _ hg
  have z3 := frozen_of_row W w.heap.size 3 _ _ hg
  have HG : Hid _ := hg
  have HB : Hid _ := hb
  clear hg hb hB hblk hlt
  (refine Go.Lq.wp_region_last 17 (by kernel_rfl) (by kernel_rfl) ?_; dsimp only [List.dropLast]; (repeat (quiet_step (fail))); refine wpQuiet_nil ?_; intro _ hw'; obtain ⟨nq, hw''⟩ := hw'; subst hw''; refine Go.Lq.wpOp_last rfl rfl ?_; unfold Oper.wp; go_simp)
  go_wp2
  have e0 := heap_setCell_same (W.drewN nq) w.heap.size 0 _ _ (.int .i64 m.status) HG.out
  have e1 := heap_setCell_same _ w.heap.size 1 _ _ (.slice ah m.headers.length ch) e0
  have e2 := heap_setCell_same _ w.heap.size 2 _ _ (.slice ab m.body.length cb) e1
  have e3 := heap_setCell_same _ w.heap.size 3 _ _ (.bool m.last) e2
  exact bodyPost_ret (results_cell_row rfl _ _ w.heap.size _ _ _ _ rfl e3 Tryz.underlying31 rfl (by kernel_rfl)) rfl ⟨rfl, ((((belowN HB.out nq).setCell (p := ⟨w.heap.size, 0, none⟩) (Nat.le_refl _) _).setCell (p := ⟨w.heap.size, 1, none⟩) (Nat.le_refl _) _).setCell (p := ⟨w.heap.size, 2, none⟩) (Nat.le_refl _) _).setCell (p := ⟨w.heap.size, 3, none⟩) (Nat.le_refl _) _⟩
end Go.Proofs
