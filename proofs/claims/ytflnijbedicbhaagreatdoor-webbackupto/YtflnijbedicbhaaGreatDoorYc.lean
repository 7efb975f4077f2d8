/-
  A parser's small calls: newRequest, NewParser, goOn, request, wrong, Waits.
-/
import Derived.Test.YtflnijbedicbhaaGreatDoorYb
namespace Go.Proofs
open Go.RowKit Go.Wi Go.Wb
theorem Tryz.mc_size (m : Msg) (Vw Vh Vb : Value) : (Tryz.mc m Vw Vh Vb).size = 22 := rfl
/-- A new request's cells. -/
def Tryz.nrCells (n : Nat) : Array Value := Tryz.mc (newReq n) (.slice none 0 0) (.slice none 0 0) (.slice none 0 0)
set_option maxRecDepth 20000 in
set_option maxHeartbeats 1000000 in
theorem Tryz.newRequest_any (n : Nat) (w : World) :
    Calls Tryz.prog 36 #[.int .i64 n] w fun e w' => e = .returned (.agg (Tryz.nrCells n)) ∧ Below w.heap.size w w' := by
  go_enter Tryz.func36, Tryz.ntmps36
  go_upto_region 1 with (fail)
  generalize hW : w.alloc _ = W
  have hg : W.heap[w.heap.size]? = some (.cells (Tryz.mc zero (.slice none 0 0) (.slice none 0 0) (.slice none 0 0)) 75 (0, 0)) := by rw [← hW]; exact heap_alloc_new w _
  have hb : Below w.heap.size w W := by rw [← hW]; exact (Below.refl _ w).alloc (Nat.le_refl _) _
  clear hW
  refine wp_region_lit ?_
  refine Wb.step_value rfl (v := .agg #[Tryz.tkV .ahead, .nilFunc]) (w' := W) (by kernel_rfl) ?_
  refine Wb.step_value rfl (v := .int .i64 n) (w' := W) (by kernel_rfl) ?_
  refine Wb.step_value rfl (v := .int .i64 n) (w' := W) (by kernel_rfl) ?_
  refine Wb.step_value rfl (v := .agg (Tryz.nrCells n)) (w' := W) (by kernel_rfl) ?_
  have hth : W.there w.heap.size 0 22 := fun j hj => by
    rw [Nat.zero_add]
    exact ⟨by rw [cell_of_row _ _ j _ _ _ hg, Array.getElem?_eq_getElem (by rw [Tryz.mc_size]; exact hj)]; rfl, frozen_of_row _ _ j _ _ hg⟩
  refine wpList_store_mid rfl 75 _ _ rfl w.heap.size 0 _ rfl rfl hth (by kernel_rfl) (by kernel_rfl) ?_
  have hr := Wb.setCells_row w.heap.size 75 (Tryz.nrCells n).toList 0 W _ hg (Nat.le_of_eq rfl)
  have hb2 : Below w.heap.size w (W.setCells w.heap.size 0 (Tryz.nrCells n).toList) := Wo.toBelow hb (Wb.setCells_wo (own := fun k => w.heap.size ≤ k) w.heap.size (Nat.le_refl _) _ 0 W W (Wo.refl _ _)) (fun k e => e) hb.size
  generalize W.setCells _ _ _ = W2 at *
  go_wp2
  exact bodyPost_ret (results_cell_row rfl _ _ w.heap.size _ _ _ _ rfl hr Tryz.underlying75 rfl (by kernel_rfl)) rfl ⟨rfl, hb2⟩
/-- A parser's blocks, all released but its own one. -/
theorem Tryz.Ms.alone {T : TypeId} {w : World} {own : Nat → Prop} {b : Nat} {m : Msg} (h : Tryz.Ms T w own b m) (hw : m.word = []) (hh : m.headers = []) (hb : m.body = []) (hx : w.heap[b]? = some (.cells (Tryz.mc m (.slice none 0 0) (.slice none 0 0) (.slice none 0 0)) T (0, 0))) : Tryz.Ms T w (fun k => k = b) b m := by
  obtain ⟨aw, cw, ah, ch, ab, cb, h1⟩ := h.ex
  refine ⟨none, 0, none, 0, none, 0, by rw [hw, hh, hb]; exact hx, by rw [hw]; exact World.ownsRow_nil _ _ _ _, by rw [hh]; exact World.ownsRow_nil _ _ _ _, by rw [hb]; exact World.ownsRow_nil _ _ _ _, (fun k e => by cases e), (fun k e => by cases e), (fun k e => by cases e), rfl, fun k e => by rw [e]; exact h1.lt b h1.ob⟩
set_option maxRecDepth 20000 in
set_option maxHeartbeats 1000000 in
theorem Tryz.newParser_any (w : World) :
    Calls Tryz.prog 12 #[] w fun e w' => ∃ b, e = .returned (.pointer (some ⟨b, 0, none⟩)) ∧ w.heap.size ≤ b ∧ Tryz.Ms 82 w' (fun k => k = b) b (newReq 0) ∧ Below w.heap.size w w' := by
  have kr := Tryz.newRequest_any 0 w
  simp only [Tryz.nrCells, Tryz.mc, newReq, Tryz.tkV, Tryz.thV] at kr
  go_enter Tryz.func12, Tryz.ntmps12
  go_wp2_with (first | (go_at_call 36; refine kr.mono ?_; clear kr; rintro e w1 ⟨rfl, hb1⟩) | fail)
  go_ret
  have hn := heap_alloc_new w1 (.cells (Tryz.nrCells 0) 82)
  have hb2 : Below w1.heap.size w1 (w1.alloc (.cells (Tryz.nrCells 0) 82)) := (Below.refl _ w1).alloc (Nat.le_refl _) _
  refine ⟨w1.heap.size, rfl, hb1.size, ?_, hb1.trans (hb2.mono hb1.size)⟩
  exact ⟨none, 0, none, 0, none, 0, hn, World.ownsRow_nil _ _ _ _, World.ownsRow_nil _ _ _ _, World.ownsRow_nil _ _ _ _, (fun k e => by cases e), (fun k e => by cases e), (fun k e => by cases e), rfl, fun k e => by rw [e]; exact block_lt hn⟩
set_option maxRecDepth 20000 in
set_option maxHeartbeats 1000000 in
theorem Tryz.goOn_any {w : World} {own : Nat → Prop} {b : Nat} {m : Msg} (h : Tryz.Ms 82 w own b m) :
    Calls Tryz.prog 39 #[.pointer (some ⟨b, 0, none⟩), .bool m.last] w fun e w' => (∃ v, e = .returned v) ∧ Tryz.Ms 82 w' (fun k => k = b) b (goOn m) ∧ Wo (fun k => k = b) w w' := by
  have hth := h.there
  have c3 : w.cell? ⟨b, 3, none⟩ = some (.int .i64 m.at_) := by
    obtain ⟨aw, cw, ah, ch, ab, cb, hmw⟩ := h.ex
    exact (cell_of_row _ _ 3 _ _ _ hmw.blk).trans rfl
  have key : ∀ (W : World) (m' : Msg), Below w.heap.size w W → m'.word = [] → m'.headers = [] → m'.body = [] → Tryz.Ms 82 (W.setCells b 0 (Tryz.mc m' (.slice none 0 0) (.slice none 0 0) (.slice none 0 0)).toList) (fun k => k = b) b m' ∧ Wo (fun k => k = b) w (W.setCells b 0 (Tryz.mc m' (.slice none 0 0) (.slice none 0 0) (.slice none 0 0)).toList) := fun W m' hb h1 h2 h3 => by
    have hW := h.below hb
    obtain ⟨hM, -⟩ := hW.renew m' h1 h2 h3
    obtain ⟨aw, cw, ah, ch, ab, cb, hmw⟩ := hW.ex
    have hr := Wb.setCells_row b 82 (Tryz.mc m' (.slice none 0 0) (.slice none 0 0) (.slice none 0 0)).toList 0 W _ hmw.blk (Nat.le_of_eq rfl)
    exact ⟨hM.alone h1 h2 h3 hr, Wb.setCells_wo (own := fun k => k = b) b rfl _ 0 w W (Wo.ofBelow hb)⟩
  cases hl : m.last with
  | true =>
    have e1 : goOn m = zero := by unfold goOn; rw [if_pos hl]
    rw [e1]
    clear hl e1 h
    go_enter Tryz.func39, Tryz.ntmps39
    go_upto_region 1 with (fail)
    refine wp_region_lit ?_
    refine Wb.step_value rfl (v := .pointer (some ⟨b, 0, none⟩)) (w' := w) (by kernel_rfl) ?_
    refine Wb.step_value rfl (v := .agg (Tryz.mc zero (.slice none 0 0) (.slice none 0 0) (.slice none 0 0))) (w' := w) (by kernel_rfl) ?_
    refine Wb.step_value rfl (v := .pointer (some ⟨b, 0, none⟩)) (w' := w) (by kernel_rfl) ?_
    refine Wb.step_value rfl (v := .pointer (some ⟨b, 0, none⟩)) (w' := w) (by kernel_rfl) ?_
    refine wpList_store_mid rfl 75 _ _ rfl b 0 _ rfl rfl hth (by kernel_rfl) (by kernel_rfl) ?_
    obtain ⟨k1, k2⟩ := key w zero (Below.refl _ _) rfl rfl rfl
    generalize w.setCells _ _ _ = W1 at *
    go_wp2
    exact bodyPost_ret (results_none rfl _ _ _) rfl ⟨⟨_, rfl⟩, k1, k2⟩
  | false =>
    have e1 : goOn m = newReq m.at_ := by unfold goOn; rw [if_neg (by rw [hl]; exact Bool.false_ne_true)]
    rw [e1]
    have kr := Tryz.newRequest_any m.at_ w
    have hth1 : ∀ W, Below w.heap.size w W → W.there b 0 22 := fun W hb => (h.below hb).there
    have hsz : (Tryz.nrCells m.at_).size = 22 := rfl
    have hone : (Tryz.nrCells m.at_).all (·.oneCell') = true := by kernel_rfl
    have HST : Hid (∀ W, Below w.heap.size w W → (storeCells ⟨b, 0, none⟩ (Tryz.nrCells m.at_).toList 0).run Tryz.prog W = .ok () (W.setCells b 0 (Tryz.nrCells m.at_).toList)) := fun W hb => by
      have ht := hth1 W hb
      have := run_storeCells_cells (P := Tryz.prog) b 0 (Tryz.nrCells m.at_).toList 0 W (fun j hj => by simpa using (ht j (by rw [Array.length_toList, hsz] at hj; exact hj)).1) (fun j hj => by simpa using (ht j (by rw [Array.length_toList, hsz] at hj; exact hj)).2) (fun v hv => (Array.all_eq_true_iff_forall_mem.1 hone) v (by simpa using hv))
      simpa only [Nat.add_zero] using this
    have HK : Hid (∀ W, Below w.heap.size w W → Tryz.Ms 82 (W.setCells b 0 (Tryz.nrCells m.at_).toList) (fun k => k = b) b (newReq m.at_) ∧ Wo (fun k => k = b) w (W.setCells b 0 (Tryz.nrCells m.at_).toList)) := fun W hb => key W (newReq m.at_) hb rfl rfl rfl
    clear hl e1 h hth1 hth key hone
    generalize Tryz.nrCells m.at_ = NR at *
    go_enter Tryz.func39, Tryz.ntmps39
    go_wp2_with (first | (go_at_call 36; refine kr.mono ?_; clear kr; rintro e w1 ⟨rfl, hb1⟩; have hsv := HST.out w1 hb1) | fail)
    go_end0
    exact ⟨⟨_, rfl⟩, HK.out w1 hb1⟩
end Go.Proofs
