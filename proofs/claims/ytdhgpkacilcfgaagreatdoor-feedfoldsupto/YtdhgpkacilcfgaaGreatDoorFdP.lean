/-
  FEED: counts compared whole.
-/
import Derived.Test.YtdhgpkacilcfgaaGreatDoorFdO
import Derived.Deep.RegionHeld3
namespace Go.Proofs
open Go.RowKit Go.Wi Go.Fd Go.Sort
set_option maxRecDepth 20000 in
set_option maxHeartbeats 2000000 in
theorem Tryz.byAll_any (x y : Cn) (w : World) : Calls Tryz.prog 46 #[.agg (cnE x).toArray, .agg (cnE y).toArray] w fun e w' => e = .returned (.int .i64 (cnAll x y)) ∧ ∃ q os', w' = grow (w.drewN q) os' := by
  have hmx : Tryz.prog.follows .mixedOrders = true := by kernel_rfl
  have h1 := fun W => Tryz.byRoom_any x y W
  have h2 := fun W => Tryz.comparei_any x.un y.un W
  have h3 := fun W => Tryz.comparei_any x.hi y.hi W
  have h4 := fun W g k0 k1 k2 => Tryz.or_any (cnC x y) (cmpI x.un y.un) (cmpI x.hi y.hi) W g k0 k1 k2
  have HR : Hid (cnAll x y = (if cnC x y ≠ 0 then cnC x y else if cmpI x.un y.un ≠ 0 then cmpI x.un y.un else cmpI x.hi y.hi)) := rfl
  show Calls Tryz.prog 46 #[.agg #[.string x.room, .int .i64 x.un, .int .i64 x.hi], .agg #[.string y.room, .int .i64 y.un, .int .i64 y.hi]] w _
  have h1' : ∀ W, Calls Tryz.prog 33 #[.agg #[.string x.room, .int .i64 x.un, .int .i64 x.hi], .agg #[.string y.room, .int .i64 y.un, .int .i64 y.hi]] W fun e w' => e = .returned (.int .i64 (cnC x y)) ∧ ∃ q os', w' = grow (W.drewN q) os' := h1
  clear h1
  generalize hr : (if cnC x y ≠ 0 then cnC x y else if cmpI x.un y.un ≠ 0 then cmpI x.un y.un else cmpI x.hi y.hi) = r at *
  generalize cnC x y = c1 at *
  generalize cmpI x.un y.un = c2 at *
  generalize cmpI x.hi y.hi = c3 at *
  rw [HR.out]
  clear hr
  go_enter Tryz.func46, Tryz.ntmps46
  go_upto_region 1 with (fail)
  obtain ⟨W0, hW0⟩ : ∃ W, W = (w.alloc (.cells #[.string x.room, .int .i64 x.un, .int .i64 x.hi] 39)).alloc (.cells #[.string y.room, .int .i64 y.un, .int .i64 y.hi] 39) := ⟨_, rfl⟩
  rw [← hW0]
  have hx : W0.heap[w.heap.size]? = some (.cells #[.string x.room, .int .i64 x.un, .int .i64 x.hi] 39 (0, 0)) := by rw [hW0]; exact (heap_alloc_old _ _ (by simp)).trans (heap_alloc_new _ _)
  have hy : W0.heap[w.heap.size + 1]? = some (.cells #[.string y.room, .int .i64 y.un, .int .i64 y.hi] 39 (0, 0)) := by
    rw [hW0, show w.heap.size + 1 = (w.alloc (.cells #[.string x.room, .int .i64 x.un, .int .i64 x.hi] 39)).heap.size by simp]; exact heap_alloc_new _ _
  have hg : ∃ q os, W0 = grow (w.drewN q) os := ⟨0, _, by rw [hW0, alloc_eq_grow, alloc_eq_grow, grow_grow]; rfl⟩
  have hl := block_lt hy
  generalize w.heap.size = b at *
  have key : ∀ q os, (grow (W0.drewN q) os).cell? ⟨b, 0, none⟩ = some (.string x.room) ∧ (grow (W0.drewN q) os).cell? ⟨b, 1, none⟩ = some (.int .i64 x.un) ∧ (grow (W0.drewN q) os).cell? ⟨b, 2, none⟩ = some (.int .i64 x.hi) ∧ (grow (W0.drewN q) os).cell? ⟨b + 1, 0, none⟩ = some (.string y.room) ∧ (grow (W0.drewN q) os).cell? ⟨b + 1, 1, none⟩ = some (.int .i64 y.un) ∧ (grow (W0.drewN q) os).cell? ⟨b + 1, 2, none⟩ = some (.int .i64 y.hi) ∧ ∃ q' os', grow (W0.drewN q) os = grow (W0.drewN q') os' := fun q os =>
    ⟨cell_grown (a := ⟨b, 0, none⟩) (by show b < _; omega) (cell_of_row _ _ _ _ _ _ hx) q os, cell_grown (a := ⟨b, 1, none⟩) (by show b < _; omega) (cell_of_row _ _ _ _ _ _ hx) q os, cell_grown (a := ⟨b, 2, none⟩) (by show b < _; omega) (cell_of_row _ _ _ _ _ _ hx) q os, cell_grown (a := ⟨b + 1, 0, none⟩) hl (cell_of_row _ _ _ _ _ _ hy) q os, cell_grown (a := ⟨b + 1, 1, none⟩) hl (cell_of_row _ _ _ _ _ _ hy) q os, cell_grown (a := ⟨b + 1, 2, none⟩) hl (cell_of_row _ _ _ _ _ _ hy) q os, q, os, rfl⟩
  have KEY : Hid (∀ W, (∃ q os, W = grow (W0.drewN q) os) → W.cell? ⟨b, 0, none⟩ = some (.string x.room) ∧ W.cell? ⟨b, 1, none⟩ = some (.int .i64 x.un) ∧ W.cell? ⟨b, 2, none⟩ = some (.int .i64 x.hi) ∧ W.cell? ⟨b + 1, 0, none⟩ = some (.string y.room) ∧ W.cell? ⟨b + 1, 1, none⟩ = some (.int .i64 y.un) ∧ W.cell? ⟨b + 1, 2, none⟩ = some (.int .i64 y.hi) ∧ ∃ q os, W = grow (W0.drewN q) os) := by
    rintro W ⟨q, os, rfl⟩; exact key q os
  have ST : Hid (∀ W W', (∃ q os, W = grow (W0.drewN q) os) → (∃ q os, W' = grow (W.drewN q) os) → ∃ q os, W' = grow (W0.drewN q) os) := by
    rintro W W' ⟨q, os, rfl⟩ ⟨q', os', rfl⟩
    exact ⟨q + q', os ++ os', by show grow (grow ((W0.drewN q).drewN q') os) os' = _; rw [grow_grow, World.drewN_drewN]⟩
  have HG : Hid (∃ q os, W0 = grow (w.drewN q) os) := hg
  have hbr : ∀ W : World, (W.cell? ⟨b, 0, none⟩ = some (.string x.room) ∧ W.cell? ⟨b, 1, none⟩ = some (.int .i64 x.un) ∧ W.cell? ⟨b, 2, none⟩ = some (.int .i64 x.hi) ∧ W.cell? ⟨b + 1, 0, none⟩ = some (.string y.room) ∧ W.cell? ⟨b + 1, 1, none⟩ = some (.int .i64 y.un) ∧ W.cell? ⟨b + 1, 2, none⟩ = some (.int .i64 y.hi) ∧ ∃ q os, W = grow (W0.drewN q) os) → Calls Tryz.prog 33 #[.agg #[.string x.room, .int .i64 x.un, .int .i64 x.hi], .agg #[.string y.room, .int .i64 y.un, .int .i64 y.hi]] W fun e w' => e = .returned (.int .i64 c1) ∧ (w'.cell? ⟨b, 0, none⟩ = some (.string x.room) ∧ w'.cell? ⟨b, 1, none⟩ = some (.int .i64 x.un) ∧ w'.cell? ⟨b, 2, none⟩ = some (.int .i64 x.hi) ∧ w'.cell? ⟨b + 1, 0, none⟩ = some (.string y.room) ∧ w'.cell? ⟨b + 1, 1, none⟩ = some (.int .i64 y.un) ∧ w'.cell? ⟨b + 1, 2, none⟩ = some (.int .i64 y.hi) ∧ ∃ q os, w' = grow (W0.drewN q) os) := fun W hS => (h1' W).mono fun e w' ⟨e1, e2⟩ => ⟨e1, KEY.out _ (ST.out _ _ hS.2.2.2.2.2.2 e2)⟩
  have hal : ∀ (W : World) (o : Obj), (W.cell? ⟨b, 0, none⟩ = some (.string x.room) ∧ W.cell? ⟨b, 1, none⟩ = some (.int .i64 x.un) ∧ W.cell? ⟨b, 2, none⟩ = some (.int .i64 x.hi) ∧ W.cell? ⟨b + 1, 0, none⟩ = some (.string y.room) ∧ W.cell? ⟨b + 1, 1, none⟩ = some (.int .i64 y.un) ∧ W.cell? ⟨b + 1, 2, none⟩ = some (.int .i64 y.hi) ∧ ∃ q os, W = grow (W0.drewN q) os) → ((W.alloc o).cell? ⟨b, 0, none⟩ = some (.string x.room) ∧ (W.alloc o).cell? ⟨b, 1, none⟩ = some (.int .i64 x.un) ∧ (W.alloc o).cell? ⟨b, 2, none⟩ = some (.int .i64 x.hi) ∧ (W.alloc o).cell? ⟨b + 1, 0, none⟩ = some (.string y.room) ∧ (W.alloc o).cell? ⟨b + 1, 1, none⟩ = some (.int .i64 y.un) ∧ (W.alloc o).cell? ⟨b + 1, 2, none⟩ = some (.int .i64 y.hi) ∧ ∃ q os, (W.alloc o) = grow (W0.drewN q) os) := fun W o hS => KEY.out _ (ST.out _ _ hS.2.2.2.2.2.2 ⟨0, _, alloc_eq_grow _ _⟩)
  have hdr : W0.drew.cell? ⟨b, 0, none⟩ = some (.string x.room) ∧ W0.drew.cell? ⟨b, 1, none⟩ = some (.int .i64 x.un) ∧ W0.drew.cell? ⟨b, 2, none⟩ = some (.int .i64 x.hi) ∧ W0.drew.cell? ⟨b + 1, 0, none⟩ = some (.string y.room) ∧ W0.drew.cell? ⟨b + 1, 1, none⟩ = some (.int .i64 y.un) ∧ W0.drew.cell? ⟨b + 1, 2, none⟩ = some (.int .i64 y.hi) ∧ ∃ q os, W0.drew = grow (W0.drewN q) os := KEY.out _ ⟨1, #[], by rw [grow_empty]; rfl⟩
  have FIN : Hid (∀ W : World, (W.cell? ⟨b, 0, none⟩ = some (.string x.room) ∧ W.cell? ⟨b, 1, none⟩ = some (.int .i64 x.un) ∧ W.cell? ⟨b, 2, none⟩ = some (.int .i64 x.hi) ∧ W.cell? ⟨b + 1, 0, none⟩ = some (.string y.room) ∧ W.cell? ⟨b + 1, 1, none⟩ = some (.int .i64 y.un) ∧ W.cell? ⟨b + 1, 2, none⟩ = some (.int .i64 y.hi) ∧ ∃ q os, W = grow (W0.drewN q) os) → ∃ q os, W = grow (w.drewN q) os) := fun W hS => by
    obtain ⟨q, os, rfl⟩ := hS.2.2.2.2.2.2
    obtain ⟨q', os', hW⟩ := HG.out
    rw [hW]
    exact ⟨q' + q, os' ++ os, by show grow (grow ((w.drewN q').drewN q) os') os = _; rw [grow_grow, World.drewN_drewN]⟩
  clear hx hy hl key hg hW0 h1'
  go_region_held3 (fun W => W.cell? ⟨b, 0, none⟩ = some (.string x.room) ∧ W.cell? ⟨b, 1, none⟩ = some (.int .i64 x.un) ∧ W.cell? ⟨b, 2, none⟩ = some (.int .i64 x.hi) ∧ W.cell? ⟨b + 1, 0, none⟩ = some (.string y.room) ∧ W.cell? ⟨b + 1, 1, none⟩ = some (.int .i64 y.un) ∧ W.cell? ⟨b + 1, 2, none⟩ = some (.int .i64 y.hi) ∧ ∃ q os, W = grow (W0.drewN q) os)
    (first | assumption | exact hdr | exact hal _ _ (by assumption))
    (first
      | (go_at_call 33; refine (hbr _ (by assumption)).mono ?_; rintro e W1 ⟨rfl, hS1⟩)
      | (go_at_call_of 55 (Value.int IntKind.i64 x.un); refine (h2 _).mono ?_; rintro e W2 ⟨rfl, hW2⟩; subst hW2)
      | (go_at_call_of 55 (Value.int IntKind.i64 x.hi); refine (h3 _).mono ?_; rintro e W3 ⟨rfl, hW3⟩; subst hW3)
      | (go_at_call 54; refine (h4 _ _ (cell_of_row _ _ 0 _ _ _ (heap_alloc_new _ _)) (cell_of_row _ _ 1 _ _ _ (heap_alloc_new _ _)) (cell_of_row _ _ 2 _ _ _ (heap_alloc_new _ _))).mono ?_; rintro e W4 ⟨rfl, hW4⟩; subst hW4)
      | fail)
  all_goals
    clear KEY ST hbr hdr h2 h3 h4 hmx
    go_wp2
    go_ret
    exact ⟨rfl, by first | exact FIN.out _ (by assumption) | exact FIN.out _ (hal _ _ (by assumption))⟩
end Go.Proofs
