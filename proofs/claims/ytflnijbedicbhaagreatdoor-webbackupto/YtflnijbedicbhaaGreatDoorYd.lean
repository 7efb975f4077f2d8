/-
  request, wrong, Waits.
-/
import Derived.Test.YtflnijbedicbhaaGreatDoorYc
import Derived.Test.YtflnijbedicbhaaGreatDoorLq
namespace Go.Proofs
open Go.RowKit Go.Wi Go.Wb
set_option maxRecDepth 20000 in
set_option maxHeartbeats 2000000 in
theorem Tryz.request_any {T : TypeId} {w : World} {own : Nat → Prop} {b : Nat} {m : Msg} {aw ah ab : Option Addr} {cw ch cb : Nat} (h : Tryz.Mw T w own b m aw cw ah ch ab cb) :
    Calls Tryz.prog 38 #[.pointer (some ⟨b, 0, none⟩)] w fun e w' => e = .returned (.agg #[.string ⟨m.method.toArray⟩, .string ⟨m.target.toArray⟩, .slice ah m.headers.length ch, .slice ab m.body.length cb, .bool m.last]) ∧ Below w.heap.size w w' := by
  have hlt := h.lt b h.ob
  have hblk := h.blk
  clear h
  go_enter Tryz.func38, Tryz.ntmps38
  go_upto_region 1 with (fail)
  generalize hW : w.alloc _ = W
  have hg : W.heap[w.heap.size]? = some (.cells #[.string ⟨#[]⟩, .string ⟨#[]⟩, .slice none 0 0, .slice none 0 0, .bool false] 49 (0, 0)) := by rw [← hW]; exact heap_alloc_new w _
  have hb : Below w.heap.size w W := by rw [← hW]; exact (Below.refl _ w).alloc (Nat.le_refl _) _
  clear hW
  have hB := (hb.block b hlt).trans hblk
  have c7 : W.cell? ⟨b, 7, none⟩ = some (.string ⟨m.method.toArray⟩) := (cell_of_row _ _ 7 _ _ _ hB).trans rfl
  have c8 : W.cell? ⟨b, 8, none⟩ = some (.string ⟨m.target.toArray⟩) := (cell_of_row _ _ 8 _ _ _ hB).trans rfl
  have c13 : W.cell? ⟨b, 13, none⟩ = some (.slice ah m.headers.length ch) := (cell_of_row _ _ 13 _ _ _ hB).trans rfl
  have c19 : W.cell? ⟨b, 19, none⟩ = some (.slice ab m.body.length cb) := (cell_of_row _ _ 19 _ _ _ hB).trans rfl
  have c15 : W.cell? ⟨b, 15, none⟩ = some (.bool m.last) := (cell_of_row _ _ 15 _ _ _ hB).trans rfl
  have g0 : W.cell? ⟨w.heap.size, 0, none⟩ = some (.string ⟨#[]⟩) := cell_of_row _ _ 0 _ _ _ hg
  have g1 : W.cell? ⟨w.heap.size, 1, none⟩ = some (.string ⟨#[]⟩) := cell_of_row _ _ 1 _ _ _ hg
  have g2 : W.cell? ⟨w.heap.size, 2, none⟩ = some (.slice none 0 0) := cell_of_row _ _ 2 _ _ _ hg
  have g3 : W.cell? ⟨w.heap.size, 3, none⟩ = some (.slice none 0 0) := cell_of_row _ _ 3 _ _ _ hg
  have g4 : W.cell? ⟨w.heap.size, 4, none⟩ = some (.bool false) := cell_of_row _ _ 4 _ _ _ hg
  have z0 := frozen_of_row W w.heap.size 0 _ _ hg
  have z1 := frozen_of_row W w.heap.size 1 _ _ hg
  have z2 := frozen_of_row W w.heap.size 2 _ _ hg
  have z3 := frozen_of_row W w.heap.size 3 _ _ hg
  have z4 := frozen_of_row W w.heap.size 4 _ _ hg
  have HG : Hid _ := hg
  have HB : Hid _ := hb
  clear hg hb hB hblk hlt
  (refine Go.Lq.wp_region_last 21 (by kernel_rfl) (by kernel_rfl) ?_; dsimp only [List.dropLast]; (repeat (quiet_step (fail))); refine wpQuiet_nil ?_; intro _ hw'; obtain ⟨nq, hw''⟩ := hw'; subst hw''; refine Go.Lq.wpOp_last rfl rfl ?_; unfold Oper.wp; go_simp)
  go_wp2
  have e0 := heap_setCell_same (W.drewN nq) w.heap.size 0 _ _ (.string ⟨m.method.toArray⟩) HG.out
  have e1 := heap_setCell_same _ w.heap.size 1 _ _ (.string ⟨m.target.toArray⟩) e0
  have e2 := heap_setCell_same _ w.heap.size 2 _ _ (.slice ah m.headers.length ch) e1
  have e3 := heap_setCell_same _ w.heap.size 3 _ _ (.slice ab m.body.length cb) e2
  have e4 := heap_setCell_same _ w.heap.size 4 _ _ (.bool m.last) e3
  exact bodyPost_ret (results_cell_row rfl _ _ w.heap.size _ _ _ _ rfl e4 Tryz.underlying49 rfl (by kernel_rfl)) rfl ⟨rfl, (((((belowN HB.out nq).setCell (p := ⟨w.heap.size, 0, none⟩) (Nat.le_refl _) _).setCell (p := ⟨w.heap.size, 1, none⟩) (Nat.le_refl _) _).setCell (p := ⟨w.heap.size, 2, none⟩) (Nat.le_refl _) _).setCell (p := ⟨w.heap.size, 3, none⟩) (Nat.le_refl _) _).setCell (p := ⟨w.heap.size, 4, none⟩) (Nat.le_refl _) _⟩
set_option maxHeartbeats 1000000 in
theorem Tryz.wrong_any {T : TypeId} {w : World} {own : Nat → Prop} {b : Nat} {m : Msg} (h : Tryz.Ms T w own b m) :
    Calls Tryz.prog 34 #[.pointer (some ⟨b, 0, none⟩)] w fun e w' => (m.fErr = 0 ∧ e = .returned .nilIface ∨ m.fErr ≠ 0 ∧ e = .returned (.iface 84 (.pointer (some ⟨w.heap.size, 0, none⟩))) ∧ w'.heap[w.heap.size]? = some (.cells #[.int .i64 m.fAt, .int .i64 m.fErr] 73 (0, 0))) ∧ Below w.heap.size w w' := by
  obtain ⟨c20, c21⟩ : w.cell? ⟨b, 20, none⟩ = some (.int .i64 m.fAt) ∧ w.cell? ⟨b, 21, none⟩ = some (.int .i64 m.fErr) := by
    obtain ⟨aw, cw, ah, ch, ab, cb, hmw⟩ := h.ex
    exact ⟨(cell_of_row _ _ 20 _ _ _ hmw.blk).trans rfl, (cell_of_row _ _ 21 _ _ _ hmw.blk).trans rfl⟩
  clear h
  by_cases h0 : m.fErr = 0
  · have q : ((m.fErr : Int) == 0) = true := by rw [h0]; rfl
    have H0 : Hid (m.fErr = 0) := h0
    clear h0
    go_enter Tryz.func34, Tryz.ntmps34
    go_wp2
    go_ret
    exact ⟨.inl ⟨H0.out, rfl⟩, Below.refl _ _⟩
  · have q : ((m.fErr : Int) == 0) = false := by simp; omega
    have H0 : Hid (m.fErr ≠ 0) := h0
    clear h0
    go_enter Tryz.func34, Tryz.ntmps34
    go_wp2
    go_ret
    exact ⟨.inr ⟨H0.out, rfl, heap_alloc_new w _⟩, (Below.refl _ w).alloc (Nat.le_refl _) _⟩
/-- What waits, as a number. -/
def Wb.waitsI (m : Msg) : Int := if Wb.over m then 0 else (m.at_ : Int) - m.begin
set_option maxHeartbeats 1000000 in
theorem Tryz.waits_any {w : World} {own : Nat → Prop} {b : Nat} {m : Msg} (h : Tryz.Ms 82 w own b m) (hat : m.at_ ≤ 4611686018427387904) (hbg : m.begin ≤ 4611686018427387904) :
    Calls Tryz.prog 16 #[.pointer (some ⟨b, 0, none⟩)] w fun e w' => e = .returned (.int .i64 (Wb.waitsI m)) ∧ ∃ n, w' = w.drewN n := by
  obtain ⟨c2, c3⟩ : w.cell? ⟨b, 2, none⟩ = some (.int .i64 m.begin) ∧ w.cell? ⟨b, 3, none⟩ = some (.int .i64 m.at_) := by
    obtain ⟨aw, cw, ah, ch, ab, cb, hmw⟩ := h.ex
    exact ⟨(cell_of_row _ _ 2 _ _ _ hmw.blk).trans rfl, (cell_of_row _ _ 3 _ _ _ hmw.blk).trans rfl⟩
  have ko := Tryz.over_any h
  have hwr : IntKind.i64.wrap ((m.at_ : Int) - (m.begin : Int)) = (m.at_ : Int) - m.begin := by rw [IntKind.wrap_i64]; omega
  clear h
  unfold Wb.waitsI
  cases ho : Wb.over m with
  | true =>
    rw [ho] at ko
    rw [if_pos rfl]
    go_enter Tryz.func16, Tryz.ntmps16
    go_wp2_with (first | (go_at_call 37; refine ko.mono ?_; clear ko; rintro e w1 ⟨rfl, rfl⟩) | fail)
    go_ret
    exact ⟨rfl, 0, rfl⟩
  | false =>
    rw [ho] at ko
    rw [if_neg Bool.false_ne_true]
    go_enter Tryz.func16, Tryz.ntmps16
    go_wp2_with (first | (go_at_call 37; refine ko.mono ?_; clear ko; rintro e w1 ⟨rfl, rfl⟩) | fail)
    go_quiet (fail)
    go_wp2
    go_ret
    exact ⟨rfl, _, rfl⟩
end Go.Proofs
