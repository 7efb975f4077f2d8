/-
  Laid together by pack.py of Saf Sag.
-/
import Derived.Test.YtobcdneeonkalaaGreatDoorPSae
import Derived.Test.YtobcdneeonkalaaGreatDoorLqk
import Derived.Deep.RegionHeld3
namespace Go.Proofs
open Go.RowKit Go.Wi Go.Se Go.Ct Go.Dg
theorem Tryz.ShS.row2 {w : World} {V : Value} {x y : ByteArray} {d e : Int} (h : w.ownsRow 0 90 2 V 2 (Tryz.rowsS [(x, d), (y, e)])) : ∃ g cap cur, V = .slice (some ⟨g, 0, none⟩) 2 cap ∧ w.heap[g]? = some (.cells cur 90 (0, 0)) ∧ 2 ≤ cap ∧ cap ≤ maxLen ∧ cur.size = cap * 2 ∧ cur.toList.take 4 = [.string x, .int .i64 d, .string y, .int .i64 e] := by
  rcases h.2 with ⟨_, e⟩ | ⟨g, cap, cur, e, _, h1, h2, h3, h4, h5⟩
  · cases e
  · exact ⟨g, cap, cur, e, h1, h2, h3, h4, h5⟩
set_option maxHeartbeats 2000000 in
set_option maxRecDepth 4000 in
theorem Tryz.lessS_10 {w : World} {own : Nat → Prop} {b : Nat} {x y : ByteArray} {d e : Int} (h : Tryz.ShS w own b [(x, d), (y, e)]) :
    Calls Tryz.prog 133 #[.pointer (some ⟨b, 0, none⟩), .int .i64 1, .int .i64 0] w fun r w' => r = .returned (.bool (decide (e < d))) ∧ ∃ n, w' = w.drewN n := by
  obtain ⟨V, m, h1, h2, h3, h4, h5, h6, h7, h8⟩ := h.ex
  obtain ⟨g, cap, cur, rfl, hg, hcap, hcm, hcs, htk⟩ := Tryz.ShS.row2 h2
  have c0 : w.cell? ⟨b, 0, none⟩ = some (.slice (some ⟨g, 0, none⟩) 2 cap) := cell_of_row w b 0 _ _ _ h1
  have c1 : w.cell? ⟨g, 1, none⟩ = some (.int .i64 d) := Se.take_cell hg htk 1 _ rfl
  have c3 : w.cell? ⟨g, 3, none⟩ = some (.int .i64 e) := Se.take_cell hg htk 3 _ rfl
  clear h h1 h2 h3 h4 h5 h6 h7 h8 hg htk hcs hcm
  go_enter Tryz.func133, Tryz.ntmps133
  go_wp2
  go_quiet (fail)
  go_wp2
  go_ret
  exact ⟨rfl, nq, rfl⟩
set_option maxHeartbeats 4000000 in
set_option maxRecDepth 4000 in
theorem Tryz.swapS_01 {w : World} {own : Nat → Prop} {b : Nat} {x y : ByteArray} {d e : Int} (h : Tryz.ShS w own b [(x, d), (y, e)]) (hx : x.size ≤ maxLen) (hy : y.size ≤ maxLen) :
    Calls Tryz.prog 136 #[.pointer (some ⟨b, 0, none⟩), .int .i64 0, .int .i64 1] w fun r w' => (∃ v, r = .returned v) ∧ Wo own w w' := by
  obtain ⟨V, m, h1, h2, h3, h4, h5, h6, h7, h8⟩ := h.ex
  obtain ⟨g, cap, cur, rfl, hg, hcap, hcm, hcs, htk⟩ := Tryz.ShS.row2 h2
  have hgb : g ≠ b := fun e => h4 (by rw [e]; rfl)
  have hgm : g ≠ m := fun e => h5 (by rw [e]; rfl)
  have c0 : w.cell? ⟨b, 0, none⟩ = some (.slice (some ⟨g, 0, none⟩) 2 cap) := cell_of_row w b 0 _ _ _ h1
  have k0 : w.cell? ⟨g, 0, none⟩ = some (.string x) := Se.take_cell hg htk 0 _ rfl
  have k1 : w.cell? ⟨g, 1, none⟩ = some (.int .i64 d) := Se.take_cell hg htk 1 _ rfl
  have k2 : w.cell? ⟨g, 2, none⟩ = some (.string y) := Se.take_cell hg htk 2 _ rfl
  have k3 : w.cell? ⟨g, 3, none⟩ = some (.int .i64 e) := Se.take_cell hg htk 3 _ rfl
  have f0 := frozen_of_row w g 0 _ _ hg
  have f1 := frozen_of_row w g 1 _ _ hg
  have f2 := frozen_of_row w g 2 _ _ hg
  have f3 := frozen_of_row w g 3 _ _ hg
  have H1 : Hid _ := h1
  have H3 : Hid _ := h3
  have Hg : Hid (w.heap[g]? = some (.cells cur 90 (0, 0))) := hg
  have hgo := h8 g rfl
  clear h1 h2 h3 h4 h5 h8 hg htk hcm
  go_enter Tryz.func136, Tryz.ntmps136
  go_upto_region 0 with (fail)
  have cs : ∀ (i : Nat) (v : Value) (W : World), W.cell? ⟨b, 0, none⟩ = some (.slice (some ⟨g, 0, none⟩) 2 cap) → (W.setCell ⟨g, i, none⟩ v).cell? ⟨b, 0, none⟩ = some (.slice (some ⟨g, 0, none⟩) 2 cap) := fun i v W hW => (World.cell?_of_block (a := ⟨b, 0, none⟩) (Below.heap_setCell W ⟨g, i, none⟩ v b (fun e => hgb (by simpa using e.symm)))).trans hW
  have HCS : Hid _ := cs
  clear cs
  have k1b := heap_setCell_same w g 0 _ _ (.string y) Hg.out
  have k2b := heap_setCell_same _ g 1 _ _ (.int .i64 e) k1b
  have k3b := heap_setCell_same _ g 2 _ _ (.string x) k2b
  have k4b := heap_setCell_same _ g 3 _ _ (.int .i64 d) k3b
  have ho : ∀ k, k ≠ g → ((((w.setCell ⟨g, 0, none⟩ (.string y)).setCell ⟨g, 1, none⟩ (.int .i64 e)).setCell ⟨g, 2, none⟩ (.string x)).setCell ⟨g, 3, none⟩ (.int .i64 d)).heap[k]? = w.heap[k]? := fun k hk => by
    have hh : ∀ (W : World) (i : Nat) (v : Value), (W.setCell ⟨g, i, none⟩ v).heap[k]? = W.heap[k]? := fun W i v => Below.heap_setCell W ⟨g, i, none⟩ v k (fun e => hk (by simpa using e))
    rw [hh, hh, hh, hh]
  have hwo1 : Wo own w ((((w.setCell ⟨g, 0, none⟩ (.string y)).setCell ⟨g, 1, none⟩ (.int .i64 e)).setCell ⟨g, 2, none⟩ (.string x)).setCell ⟨g, 3, none⟩ (.int .i64 d)).drew := (((((Wo.refl own w).setCell g 0 _ (.inl hgo)).setCell g 1 _ (.inl hgo)).setCell g 2 _ (.inl hgo)).setCell g 3 _ (.inl hgo)).drew
  obtain ⟨W1, hW1⟩ : ∃ W1, W1 = ((((w.setCell ⟨g, 0, none⟩ (.string y)).setCell ⟨g, 1, none⟩ (.int .i64 e)).setCell ⟨g, 2, none⟩ (.string x)).setCell ⟨g, 3, none⟩ (.int .i64 d)).drew := ⟨_, rfl⟩
  rw [← hW1] at hwo1
  have hcz : 4 ≤ cur.size := by omega
  have u0 : W1.cell? ⟨g, 0, none⟩ = some (.string y) := by
    rw [hW1]
    refine (cell_of_row _ g 0 _ _ _ k4b).trans ?_
    have hc0 : 0 < cur.size := by omega
    simp [hc0]
  have u2 : W1.cell? ⟨g, 2, none⟩ = some (.string x) := by
    rw [hW1]
    refine (cell_of_row _ g 2 _ _ _ k4b).trans ?_
    have hc2 : 2 < cur.size := by omega
    simp [hc2]
  have hbW : W1.heap[b]? = some (.cells #[.slice (some ⟨g, 0, none⟩) 2 cap, .map (some m)] 88 (0, 0)) := by rw [hW1]; exact (ho b (Ne.symm hgb)).trans H1.out
  have v0 : W1.cell? ⟨b, 0, none⟩ = some (.slice (some ⟨g, 0, none⟩) 2 cap) := cell_of_row W1 b 0 _ _ _ hbW
  have v1 : W1.cell? ⟨b, 1, none⟩ = some (.map (some m)) := cell_of_row W1 b 1 _ _ _ hbW
  have hmp1 : Mp Tryz.txtKy W1 (some m) 2 (Tryz.atS [(x, d), (y, e)]) := H3.out.keep fun k e => (by cases e; rw [hW1]; exact ho m (Ne.symm hgm))
  have HW1 : Hid (((((w.setCell ⟨g, 0, none⟩ (.string y)).setCell ⟨g, 1, none⟩ (.int .i64 e)).setCell ⟨g, 2, none⟩ (.string x)).setCell ⟨g, 3, none⟩ (.int .i64 d)).drew = W1) := hW1.symm
  have HBW : Hid (W1.heap[b]? = some (.cells #[.slice (some ⟨g, 0, none⟩) 2 cap, .map (some m)] 88 (0, 0))) := hbW
  have hgl1 : g < W1.heap.size := World.block_lt_of_cell? _ _ u0
  clear k1b k2b k3b k4b ho hW1 hbW hcz
  refine wp_region_held_drew (S := fun W => W.cell? ⟨b, 0, none⟩ = some (.slice (some ⟨g, 0, none⟩) 2 cap)) (by kernel_rfl) c0 ?_
  intro _
  (refine wpAnyH_take (i := 0) (v := ?_) rfl (by kernel_rfl) (by kernel_rfl) (by kernel_rfl) (fun _ _ _ h => h) (Or.inl ⟨by rfl, ?_⟩) (by first | exact c0 | assumption) ?_; rotate_left; (· (intro w hSw; (try dsimp only at hSw); go_simp; try with_reducible rfl)); (try simp only [Act.put, List.getElem_toArray, List.getElem_cons_zero, List.setIfInBounds_toArray, List.set_cons_zero, List.set_cons_succ]))
  (refine wpAnyH_take (i := 1) (v := ?_) rfl (by kernel_rfl) (by kernel_rfl) (by kernel_rfl) (fun _ _ _ h => h) (Or.inl ⟨by rfl, ?_⟩) (by first | exact c0 | assumption) ?_; rotate_left; (· (intro w hSw; (try dsimp only at hSw); go_simp; try with_reducible rfl)); (try simp only [Act.put, List.getElem_toArray, List.getElem_cons_zero, List.getElem_cons_succ, List.setIfInBounds_toArray, List.set_cons_zero, List.set_cons_succ]))
  (refine wpAnyH_take (i := 2) (v := ?_) rfl (by kernel_rfl) (by kernel_rfl) (by kernel_rfl) (fun _ _ _ h => h) (Or.inl ⟨by rfl, ?_⟩) (by first | exact c0 | assumption) ?_; rotate_left; (· (intro w hSw; (try dsimp only at hSw); go_simp; try with_reducible rfl)); (try simp only [Act.put, List.getElem_toArray, List.getElem_cons_zero, List.getElem_cons_succ, List.setIfInBounds_toArray, List.set_cons_zero, List.set_cons_succ]))
  (refine wpAnyH_take (i := 3) (v := ?_) rfl (by kernel_rfl) (by kernel_rfl) (by kernel_rfl) (fun _ _ _ h => h) (Or.inl ⟨by rfl, ?_⟩) (by first | exact c0 | assumption) ?_; rotate_left; (· (intro w hSw; (try dsimp only at hSw); go_simp; try with_reducible rfl)); (try simp only [Act.put, List.getElem_toArray, List.getElem_cons_zero, List.getElem_cons_succ, List.setIfInBounds_toArray, List.set_cons_zero, List.set_cons_succ]))
  (refine wpAnyH_take (i := 4) (v := ?_) rfl (by kernel_rfl) (by kernel_rfl) (by kernel_rfl) (fun _ _ _ h => h) (Or.inl ⟨by rfl, ?_⟩) (by first | exact c0 | assumption) ?_; rotate_left; (· (intro w hSw; (try dsimp only at hSw); go_simp; try with_reducible rfl)); (try simp only [Act.put, List.getElem_toArray, List.getElem_cons_zero, List.getElem_cons_succ, List.setIfInBounds_toArray, List.set_cons_zero, List.set_cons_succ]))
  (refine wpAnyH_take (i := 5) (v := ?_) rfl (by kernel_rfl) (by kernel_rfl) (by kernel_rfl) (fun _ _ _ h => h) (Or.inl ⟨by rfl, ?_⟩) (by first | exact c0 | assumption) ?_; rotate_left; (· (intro w hSw; (try dsimp only at hSw); go_simp; try with_reducible rfl)); (try simp only [Act.put, List.getElem_toArray, List.getElem_cons_zero, List.getElem_cons_succ, List.setIfInBounds_toArray, List.set_cons_zero, List.set_cons_succ]))
  (refine wpAnyH_take (i := 6) (v := ?_) rfl (by kernel_rfl) (by kernel_rfl) (by kernel_rfl) (fun _ _ _ h => h) (Or.inl ⟨by rfl, ?_⟩) (by first | exact c0 | assumption) ?_; rotate_left; (· (intro w hSw; (try dsimp only at hSw); go_simp; try with_reducible rfl)); (try simp only [Act.put, List.getElem_toArray, List.getElem_cons_zero, List.getElem_cons_succ, List.setIfInBounds_toArray, List.set_cons_zero, List.set_cons_succ]))
  (refine wpAnyH_take (i := 7) (v := ?_) rfl (by kernel_rfl) (by kernel_rfl) (by kernel_rfl) (fun _ _ _ h => h) (Or.inl ⟨by rfl, ?_⟩) (by first | exact c0 | assumption) ?_; rotate_left; (· (intro w hSw; (try dsimp only at hSw); go_simp; try with_reducible rfl)); (try simp only [Act.put, List.getElem_toArray, List.getElem_cons_zero, List.getElem_cons_succ, List.setIfInBounds_toArray, List.set_cons_zero, List.set_cons_succ]))
  (refine wpAnyH_take (i := 8) (v := ?_) rfl (by kernel_rfl) (by kernel_rfl) (by kernel_rfl) (fun _ _ _ h => h) (Or.inl ⟨by rfl, ?_⟩) (by first | exact c0 | assumption) ?_; rotate_left; (· (intro w hSw; (try dsimp only at hSw); go_simp; try with_reducible rfl)); (try simp only [Act.put, List.getElem_toArray, List.getElem_cons_zero, List.getElem_cons_succ, List.setIfInBounds_toArray, List.set_cons_zero, List.set_cons_succ]))
  (refine wpAnyH_take (i := 9) (v := ?_) rfl (by kernel_rfl) (by kernel_rfl) (by kernel_rfl) (fun _ _ _ h => h) (Or.inl ⟨by rfl, ?_⟩) (by first | exact c0 | assumption) ?_; rotate_left; (· (intro w hSw; (try dsimp only at hSw); go_simp; try with_reducible rfl)); (try simp only [Act.put, List.getElem_toArray, List.getElem_cons_zero, List.getElem_cons_succ, List.setIfInBounds_toArray, List.set_cons_zero, List.set_cons_succ]))
  (refine wpAnyH_take (i := 10) (v := ?_) rfl (by kernel_rfl) (by kernel_rfl) (by kernel_rfl) (fun _ _ _ h => h) (Or.inl ⟨by rfl, ?_⟩) (by first | exact c0 | assumption) ?_; rotate_left; (· (intro w hSw; (try dsimp only at hSw); go_simp; try with_reducible rfl)); (try simp only [Act.put, List.getElem_toArray, List.getElem_cons_zero, List.getElem_cons_succ, List.setIfInBounds_toArray, List.set_cons_zero, List.set_cons_succ]))
  (refine wpAnyH_take (i := 11) (v := ?_) rfl (by kernel_rfl) (by kernel_rfl) (by kernel_rfl) (fun _ _ _ h => h) (Or.inl ⟨by rfl, ?_⟩) (by first | exact c0 | assumption) ?_; rotate_left; (· (intro w hSw; (try dsimp only at hSw); go_simp; try with_reducible rfl)); (try simp only [Act.put, List.getElem_toArray, List.getElem_cons_zero, List.getElem_cons_succ, List.setIfInBounds_toArray, List.set_cons_zero, List.set_cons_succ]))
  (refine wpAnyH_take (i := 12) (v := ?_) rfl (by kernel_rfl) (by kernel_rfl) (by kernel_rfl) (fun _ _ _ h => h) (Or.inl ⟨by rfl, ?_⟩) (by first | exact c0 | assumption) ?_; rotate_left; (· (intro w hSw; (try dsimp only at hSw); go_simp; try with_reducible rfl)); (try simp only [Act.put, List.getElem_toArray, List.getElem_cons_zero, List.getElem_cons_succ, List.setIfInBounds_toArray, List.set_cons_zero, List.set_cons_succ]))
  (refine wpAnyH_take (i := 13) (v := ?_) rfl (by kernel_rfl) (by kernel_rfl) (by kernel_rfl) (fun _ _ _ h => h) (Or.inl ⟨by rfl, ?_⟩) (by first | exact c0 | assumption) ?_; rotate_left; (· (intro w hSw; (try dsimp only at hSw); go_simp; try with_reducible rfl)); (try simp only [Act.put, List.getElem_toArray, List.getElem_cons_zero, List.getElem_cons_succ, List.setIfInBounds_toArray, List.set_cons_zero, List.set_cons_succ]))
  (refine wpAnyH_take (i := 14) (v := ?_) rfl (by kernel_rfl) (by kernel_rfl) (by kernel_rfl) (fun _ _ _ h => h) (Or.inl ⟨by rfl, ?_⟩) (by first | exact c0 | assumption) ?_; rotate_left; (· (intro w hSw; (try dsimp only at hSw); go_simp; try with_reducible rfl)); (try simp only [Act.put, List.getElem_toArray, List.getElem_cons_zero, List.getElem_cons_succ, List.setIfInBounds_toArray, List.set_cons_zero, List.set_cons_succ]))
  (refine wpAnyH_take (i := 15) (v := ?_) rfl (by kernel_rfl) (by kernel_rfl) (by kernel_rfl) (fun _ _ _ h => h) (Or.inl ⟨by rfl, ?_⟩) (by first | exact c0 | assumption) ?_; rotate_left; (· (intro w hSw; (try dsimp only at hSw); go_simp; try with_reducible rfl)); (try simp only [Act.put, List.getElem_toArray, List.getElem_cons_zero, List.getElem_cons_succ, List.setIfInBounds_toArray, List.set_cons_zero, List.set_cons_succ]))
  (refine wpAnyH_take (i := 17) (v := ?_) rfl (by kernel_rfl) (by kernel_rfl) (by kernel_rfl) (fun _ _ _ h => h) (Or.inl ⟨by rfl, ?_⟩) (by first | exact c0 | assumption) ?_; rotate_left; (· (intro w hSw; (try dsimp only at hSw); go_simp; try with_reducible rfl)); (try simp only [Act.put, List.getElem_toArray, List.getElem_cons_zero, List.getElem_cons_succ, List.setIfInBounds_toArray, List.set_cons_zero, List.set_cons_succ]))
  (refine wpAnyH_take (i := 18) (v := ?_) rfl (by kernel_rfl) (by kernel_rfl) (by kernel_rfl) (fun _ _ _ h => h) (Or.inl ⟨by rfl, ?_⟩) (by first | exact c0 | assumption) ?_; rotate_left; (· (intro w hSw; (try dsimp only at hSw); go_simp; try with_reducible rfl)); (try simp only [Act.put, List.getElem_toArray, List.getElem_cons_zero, List.getElem_cons_succ, List.setIfInBounds_toArray, List.set_cons_zero, List.set_cons_succ]))
  (refine wpAnyH_take (i := 19) (v := ?_) rfl (by kernel_rfl) (by kernel_rfl) (by kernel_rfl) (fun _ _ _ h => h) (Or.inl ⟨by rfl, ?_⟩) (by first | exact c0 | assumption) ?_; rotate_left; (· (intro w hSw; (try dsimp only at hSw); go_simp; try with_reducible rfl)); (try simp only [Act.put, List.getElem_toArray, List.getElem_cons_zero, List.getElem_cons_succ, List.setIfInBounds_toArray, List.set_cons_zero, List.set_cons_succ]))
  (refine wpAnyH_take (i := 20) (v := ?_) rfl (by kernel_rfl) (by kernel_rfl) (by kernel_rfl) (fun _ _ _ h => h) (Or.inl ⟨by rfl, ?_⟩) (by first | exact c0 | assumption) ?_; rotate_left; (· (intro w hSw; (try dsimp only at hSw); go_simp; try with_reducible rfl)); (try simp only [Act.put, List.getElem_toArray, List.getElem_cons_zero, List.getElem_cons_succ, List.setIfInBounds_toArray, List.set_cons_zero, List.set_cons_succ]))
  (refine wpAnyH_take (i := 21) (v := ?_) rfl (by kernel_rfl) (by kernel_rfl) (by kernel_rfl) (fun _ _ _ h => h) (Or.inl ⟨by rfl, ?_⟩) (by first | exact c0 | assumption) ?_; rotate_left; (· (intro w hSw; (try dsimp only at hSw); go_simp; try with_reducible rfl)); (try simp only [Act.put, List.getElem_toArray, List.getElem_cons_zero, List.getElem_cons_succ, List.setIfInBounds_toArray, List.set_cons_zero, List.set_cons_succ]))
  (refine wpAnyH_take (i := 22) (v := ?_) rfl (by kernel_rfl) (by kernel_rfl) (by kernel_rfl) (fun _ _ _ h => h) (Or.inl ⟨by rfl, ?_⟩) (by first | exact c0 | assumption) ?_; rotate_left; (· (intro w hSw; (try dsimp only at hSw); go_simp; try with_reducible rfl)); (try simp only [Act.put, List.getElem_toArray, List.getElem_cons_zero, List.getElem_cons_succ, List.setIfInBounds_toArray, List.set_cons_zero, List.set_cons_succ]))
  refine wpAnyH_ready (rs := [16, 23]) (by kernel_rfl) (by decide) ?_
  intro i hi
  have hi' : i = 16 ∨ i = 23 := by simpa using hi
  clear hi
  rcases hi' with rfl | rfl
  · refine Go.Lq.wpOp_last rfl rfl ?_
    unfold Oper.wp
    go_simp
    refine wpAnyH_ready (rs := [23]) (by kernel_rfl) (by decide) ?_
    intro i hi
    obtain rfl := List.mem_singleton.1 hi
    clear hi
    refine Go.Lq.wpOp_last rfl rfl ?_
    unfold Oper.wp
    go_simp
    (refine wpAnyH_take (i := 24) (v := ?_) rfl (by kernel_rfl) (by kernel_rfl) (by kernel_rfl) (fun _ _ _ h => h) (Or.inl ⟨by rfl, ?_⟩) (by first | exact c0 | assumption) ?_; rotate_left; (· (intro w hSw; (try dsimp only at hSw); go_simp; try with_reducible rfl)); (try simp only [Act.put, List.getElem_toArray, List.getElem_cons_zero, List.getElem_cons_succ, List.setIfInBounds_toArray, List.set_cons_zero, List.set_cons_succ]))
    refine wpAnyH_ready (rs := [25]) (by kernel_rfl) (by decide) ?_
    intro i hi
    obtain rfl := List.mem_singleton.1 hi
    clear hi
    refine Go.Lq.wpOp_last rfl rfl ?_
    unfold Oper.wp
    go_simp
    (refine wpAnyH_take (i := 26) (v := ?_) rfl (by kernel_rfl) (by kernel_rfl) (by kernel_rfl) (fun _ _ _ h => h) (Or.inl ⟨by rfl, ?_⟩) (by first | exact HCS.out _ _ _ (HCS.out _ _ _ c0) | assumption) ?_; rotate_left; (· (intro w hSw; (try dsimp only at hSw); go_simp; try with_reducible rfl)); (try simp only [Act.put, List.getElem_toArray, List.getElem_cons_zero, List.getElem_cons_succ, List.setIfInBounds_toArray, List.set_cons_zero, List.set_cons_succ]))
    refine wpAnyH_ready (rs := [27]) (by kernel_rfl) (by decide) ?_
    intro i hi
    obtain rfl := List.mem_singleton.1 hi
    clear hi
    refine Go.Lq.wpOp_last rfl rfl ?_
    unfold Oper.wp
    go_simp
    refine ⟨by kernel_rfl, ?_⟩
    rw [HW1.out]
    clear c0 k0 k1 k2 k3 f0 f1 f2 f3
    go_wp2
    (refine Go.Lq.wp_region_last 13 (by kernel_rfl) (by kernel_rfl) ?_; dsimp only [List.dropLast]; (repeat (quiet_step (fail))); refine wpQuiet_nil ?_; intro _ hw'; obtain ⟨nq, hw''⟩ := hw'; subst hw''; refine Go.Lq.wpOp_last rfl rfl ?_; unfold Oper.wp; go_simp)
    obtain ⟨w2, hrun2, hMp2, htu2⟩ := (Mp.keep (w' := W1.drewN nq) hmp1 fun _ _ => rfl).store Tryz.underlying86 (by unfold maxLen; omega) (x := y) hy (.int .i64 0)
    have hrun2' : (Instr.mapUpdate 86 (.map (some m)) (.string y) (.int .i64 0)).run Tryz.prog (W1.drewN nq) = .ok () w2 := hrun2
    have hg2 := htu2.grown
    have hk2 : ∀ k, k < W1.heap.size → k ≠ m → w2.heap[k]? = W1.heap[k]? := fun k hk hkm => hg2.block k hk fun e => hkm (Option.some.inj e)
    have hb2 : w2.heap[b]? = _ := (hk2 b (block_lt HBW.out) (Ne.symm h6)).trans HBW.out
    have a0 : w2.cell? ⟨b, 0, none⟩ = some (.slice (some ⟨g, 0, none⟩) 2 cap) := cell_of_row w2 b 0 _ _ _ hb2
    have a1 : w2.cell? ⟨b, 1, none⟩ = some (.map (some m)) := cell_of_row w2 b 1 _ _ _ hb2
    have a2 : w2.cell? ⟨g, 2, none⟩ = some (.string x) := (World.cell?_of_block (w := W1) (a := ⟨g, 2, none⟩) (hk2 g hgl1 hgm)).trans u2
    have hwo2 : Wo own w w2 := (hwo1.drewN nq).grown hg2 fun k e => .inl (by cases e; exact h7)
    rw [hrun2']
    clear hrun2 hrun2' htu2 hg2 hk2 hb2 u0 u2 v0 v1 hmp1 hwo1
    go_wp2
    (refine Go.Lq.wp_region_last 13 (by kernel_rfl) (by kernel_rfl) ?_; dsimp only [List.dropLast]; (repeat (quiet_step (fail))); refine wpQuiet_nil ?_; intro _ hw'; obtain ⟨nq, hw''⟩ := hw'; subst hw''; refine Go.Lq.wpOp_last rfl rfl ?_; unfold Oper.wp; go_simp)
    obtain ⟨w3, hrun3, hMp3, htu3⟩ := (Mp.keep (w' := w2.drewN nq) hMp2 fun _ _ => rfl).store Tryz.underlying86 (by unfold maxLen; omega) (x := x) hx (.int .i64 1)
    have hrun3' : (Instr.mapUpdate 86 (.map (some m)) (.string x) (.int .i64 1)).run Tryz.prog (w2.drewN nq) = .ok () w3 := hrun3
    rw [hrun3']
    go_wp2
    go_end0
    exact ⟨⟨_, rfl⟩, (hwo2.drewN _).grown htu3.grown fun k e => .inl (by cases e; exact h7)⟩
  · refine Go.Lq.wpOp_last rfl rfl ?_
    unfold Oper.wp
    go_simp
    refine wpAnyH_ready (rs := [16]) (by kernel_rfl) (by decide) ?_
    intro i hi
    obtain rfl := List.mem_singleton.1 hi
    clear hi
    refine Go.Lq.wpOp_last rfl rfl ?_
    unfold Oper.wp
    go_simp
    (refine wpAnyH_take (i := 24) (v := ?_) rfl (by kernel_rfl) (by kernel_rfl) (by kernel_rfl) (fun _ _ _ h => h) (Or.inl ⟨by rfl, ?_⟩) (by first | exact c0 | assumption) ?_; rotate_left; (· (intro w hSw; (try dsimp only at hSw); go_simp; try with_reducible rfl)); (try simp only [Act.put, List.getElem_toArray, List.getElem_cons_zero, List.getElem_cons_succ, List.setIfInBounds_toArray, List.set_cons_zero, List.set_cons_succ]))
    refine wpAnyH_ready (rs := [25]) (by kernel_rfl) (by decide) ?_
    intro i hi
    obtain rfl := List.mem_singleton.1 hi
    clear hi
    refine Go.Lq.wpOp_last rfl rfl ?_
    unfold Oper.wp
    go_simp
    (refine wpAnyH_take (i := 26) (v := ?_) rfl (by kernel_rfl) (by kernel_rfl) (by kernel_rfl) (fun _ _ _ h => h) (Or.inl ⟨by rfl, ?_⟩) (by first | exact HCS.out _ _ _ (HCS.out _ _ _ c0) | assumption) ?_; rotate_left; (· (intro w hSw; (try dsimp only at hSw); go_simp; try with_reducible rfl)); (try simp only [Act.put, List.getElem_toArray, List.getElem_cons_zero, List.getElem_cons_succ, List.setIfInBounds_toArray, List.set_cons_zero, List.set_cons_succ]))
    refine wpAnyH_ready (rs := [27]) (by kernel_rfl) (by decide) ?_
    intro i hi
    obtain rfl := List.mem_singleton.1 hi
    clear hi
    refine Go.Lq.wpOp_last rfl rfl ?_
    unfold Oper.wp
    go_simp
    refine ⟨by kernel_rfl, ?_⟩
    rw [HW1.out]
    clear c0 k0 k1 k2 k3 f0 f1 f2 f3
    go_wp2
    (refine Go.Lq.wp_region_last 13 (by kernel_rfl) (by kernel_rfl) ?_; dsimp only [List.dropLast]; (repeat (quiet_step (fail))); refine wpQuiet_nil ?_; intro _ hw'; obtain ⟨nq, hw''⟩ := hw'; subst hw''; refine Go.Lq.wpOp_last rfl rfl ?_; unfold Oper.wp; go_simp)
    obtain ⟨w2, hrun2, hMp2, htu2⟩ := (Mp.keep (w' := W1.drewN nq) hmp1 fun _ _ => rfl).store Tryz.underlying86 (by unfold maxLen; omega) (x := y) hy (.int .i64 0)
    have hrun2' : (Instr.mapUpdate 86 (.map (some m)) (.string y) (.int .i64 0)).run Tryz.prog (W1.drewN nq) = .ok () w2 := hrun2
    have hg2 := htu2.grown
    have hk2 : ∀ k, k < W1.heap.size → k ≠ m → w2.heap[k]? = W1.heap[k]? := fun k hk hkm => hg2.block k hk fun e => hkm (Option.some.inj e)
    have hb2 : w2.heap[b]? = _ := (hk2 b (block_lt HBW.out) (Ne.symm h6)).trans HBW.out
    have a0 : w2.cell? ⟨b, 0, none⟩ = some (.slice (some ⟨g, 0, none⟩) 2 cap) := cell_of_row w2 b 0 _ _ _ hb2
    have a1 : w2.cell? ⟨b, 1, none⟩ = some (.map (some m)) := cell_of_row w2 b 1 _ _ _ hb2
    have a2 : w2.cell? ⟨g, 2, none⟩ = some (.string x) := (World.cell?_of_block (w := W1) (a := ⟨g, 2, none⟩) (hk2 g hgl1 hgm)).trans u2
    have hwo2 : Wo own w w2 := (hwo1.drewN nq).grown hg2 fun k e => .inl (by cases e; exact h7)
    rw [hrun2']
    clear hrun2 hrun2' htu2 hg2 hk2 hb2 u0 u2 v0 v1 hmp1 hwo1
    go_wp2
    (refine Go.Lq.wp_region_last 13 (by kernel_rfl) (by kernel_rfl) ?_; dsimp only [List.dropLast]; (repeat (quiet_step (fail))); refine wpQuiet_nil ?_; intro _ hw'; obtain ⟨nq, hw''⟩ := hw'; subst hw''; refine Go.Lq.wpOp_last rfl rfl ?_; unfold Oper.wp; go_simp)
    obtain ⟨w3, hrun3, hMp3, htu3⟩ := (Mp.keep (w' := w2.drewN nq) hMp2 fun _ _ => rfl).store Tryz.underlying86 (by unfold maxLen; omega) (x := x) hx (.int .i64 1)
    have hrun3' : (Instr.mapUpdate 86 (.map (some m)) (.string x) (.int .i64 1)).run Tryz.prog (w2.drewN nq) = .ok () w3 := hrun3
    rw [hrun3']
    go_wp2
    go_end0
    exact ⟨⟨_, rfl⟩, (hwo2.drewN _).grown htu3.grown fun k e => .inl (by cases e; exact h7)⟩
end Go.Proofs
namespace Go.Proofs
open Go.RowKit Go.Wi Go.Se Go.Ct Go.Dg
theorem Tryz.mLessS (v : Value) (w : World) : (Go.method 339 48 v "Less").run Tryz.prog w = .ok (133, v) w := by kernel_rfl
theorem Tryz.mSwapS (v : Value) (w : World) : (Go.method 339 48 v "Swap").run Tryz.prog w = .ok (136, v) w := by kernel_rfl
set_option maxHeartbeats 2000000 in
theorem Tryz.upS_1 {w : World} {own : Nat → Prop} {b : Nat} {x y : ByteArray} {d e : Int} (h : Tryz.ShS w own b [(x, d), (y, e)]) (hx : x.size ≤ maxLen) (hy : y.size ≤ maxLen) :
    Calls Tryz.prog 67 #[.iface 48 (.pointer (some ⟨b, 0, none⟩)), .int .i64 1] w fun r w' => (∃ v, r = .returned v) ∧ Wo own w w' := by
  have hls := Tryz.lessS_10 h
  have hsw := fun m => Tryz.swapS_01 (h.keep (w' := w.drewN m) (fun _ _ => rfl) (Nat.le_refl _)) hx hy
  have mL := Tryz.mLessS
  have mS := Tryz.mSwapS
  clear h
  by_cases hed : e < d
  · rw [decide_eq_true hed] at hls
    clear hed
    go_enter Tryz.func67, Tryz.ntmps67
    go_wp2
    refine wp_loop_rounds 2 ?_
    rw [rounds_succ]
    go_wp2_with (first
      | (go_at_call 133; refine hls.mono ?_; clear hls; rintro r w1 ⟨rfl, n1, rfl⟩)
      | (go_at_call 136; refine (hsw n1).mono ?_; clear hsw; rintro r w2 ⟨⟨v2, rfl⟩, hwo⟩)
      | fail)
    rw [rounds_succ]
    go_wp2
    go_end0
    exact ⟨⟨_, rfl⟩, ⟨hwo.os, hwo.tape, hwo.output, hwo.size, hwo.block⟩⟩
  · rw [decide_eq_false hed] at hls
    clear hed
    go_enter Tryz.func67, Tryz.ntmps67
    go_wp2
    refine wp_loop_rounds 1 ?_
    rw [rounds_succ]
    go_wp2_with (first
      | (go_at_call 133; refine hls.mono ?_; clear hls; rintro r w1 ⟨rfl, n1, rfl⟩)
      | fail)
    go_end0
    exact ⟨⟨_, rfl⟩, (Wo.refl own w).drewN n1⟩
set_option maxHeartbeats 2000000 in
theorem Tryz.hPushS_2 {w : World} {own : Nat → Prop} {b : Nat} {x : ByteArray} {d : Int} (h : Tryz.ShS w own b [(x, d)]) (y : ByteArray) (e : Int) (hx : x.size ≤ maxLen) (hy : y.size ≤ maxLen) (hxy : x ≠ y) :
    Calls Tryz.prog 47 #[.iface 48 (.pointer (some ⟨b, 0, none⟩)), .iface 90 (.agg #[.string y, .int .i64 e])] w fun r w' => (∃ v, r = .returned v) ∧ Wo own w w' := by
  have hp := Tryz.pushS_any h y e hy (by simpa using hxy) (by simp)
  have mL := Tryz.mLenS
  have mP := Tryz.mPushS
  clear h
  go_enter Tryz.func47, Tryz.ntmps47
  go_wp2_with (first
    | (go_at_call 135; refine hp.mono ?_; clear hp; rintro r w1 ⟨⟨v, rfl⟩, h1⟩; obtain ⟨own1, hS1, ho1⟩ := h1.ex; have hS1' : Tryz.ShS w1 own1 b [(x, d), (y, e)] := hS1; have hl := Tryz.lenS_any hS1; have hup := Tryz.upS_1 hS1' hx hy; simp only [List.cons_append, List.nil_append, List.length_cons, List.length_nil] at hl; clear hS1)
    | (go_at_call 132; refine hl.mono ?_; clear hl; rintro r w2 ⟨rfl, rfl⟩)
    | (go_at_call 67; refine hup.mono ?_; clear hup; rintro r w3 ⟨⟨v2, rfl⟩, hwo3⟩)
    | fail)
  go_end0
  exact ⟨⟨_, rfl⟩, h1.wo.step ho1 hwo3⟩
set_option maxHeartbeats 2000000 in
set_option maxRecDepth 4000 in
theorem Tryz.putS_other {w : World} {own : Nat → Prop} {b : Nat} {x : ByteArray} {d : Int} (h : Tryz.ShS w own b [(x, d)]) (y : ByteArray) (e : Int) (hx : x.size ≤ maxLen) (hy : y.size ≤ maxLen) (hxy : x ≠ y) :
    Calls Tryz.prog 24 #[.pointer (some ⟨b, 0, none⟩), .string y, .int .i64 e] w fun r w' => (∃ v, r = .returned v) ∧ Wo own w w' := by
  obtain ⟨V, m, h1, h2, h3, h4, h5, h6, h7, h8⟩ := h.ex
  have c1 : w.cell? ⟨b, 1, none⟩ = some (.map (some m)) := cell_of_row w b 1 _ _ _ h1
  have hlk : (Instr.lookup 86 (.map (some m)) (.string y) true).run Tryz.prog w = .ok (.tuple #[.int .i64 0, .bool false]) w := by
    have := Ct.lookOk h3 Tryz.underlying86 (Tryz.zeroInt _) (x := y) hy
    rw [Tryz.atS_one, if_neg hxy] at this
    exact this
  have hps := Tryz.hPushS_2 h y e hx hy hxy
  clear h h1 h2 h3 h4 h5 h6 h7 h8 hx hy hxy
  go_enter Tryz.func24, Tryz.ntmps24
  go_wp2_with (first
    | (go_at_call 47; refine hps.mono ?_; clear hps; rintro r w2 ⟨⟨v, rfl⟩, h9⟩)
    | fail)
  go_end0
  exact ⟨⟨_, rfl⟩, h9⟩
set_option maxHeartbeats 4000000 in
set_option maxRecDepth 4000 in
/-- A user of no due, while another one has one. -/
theorem Tryz.allow_other {w : World} {own : Nat → Prop} {kb : Nat} {key : List UInt8} {n : Nu} {L : List ({x : Tk // x.ok} × Int)} {o : Option {x : Tk // x.ok}} {D : List (ByteArray × Int)} {x : ByteArray} {d : Int} (h : Tryz.Kp w own kb key n L o D) (hm : Se.Nu.May n) (hl0 : 0 ≤ n.latest) (hl1 : n.latest ≤ 1000000000) (u : ByteArray) (hu1 : 1 ≤ u.size) (hu2 : u.size ≤ 60) (hx2 : x.size ≤ 60) (hxu : x ≠ u) (now : Int) (hn0 : 0 ≤ now) (hn1 : now ≤ 1000000000)
    (hL : Tryz.Late L (max now n.latest)) (hD : Tryz.Left D [(x, d)] (max now n.latest)) :
    Calls Tryz.prog 10 #[.pointer (some ⟨kb, 0, none⟩), .string u, .int .i64 now] w fun e w' => e = .returned (.tuple #[.bool true, .int .i64 0]) ∧ Wo own w w' := by
  have hiu := Tryz.isUser_any u w
  have hit := Tryz.isTime_any now w
  rw [Se.dec2 (by omega) (by omega)] at hiu hit
  have hmo := Tryz.moveOn_any h now hL hD
  obtain ⟨⟨m1, m2⟩, ⟨m3, m4⟩, m5, m6⟩ := hm
  have hp0 : 0 ≤ (n.burst - 1) * n.rate := Int.mul_nonneg (by omega) (by omega)
  have hp1 : (n.burst - 1) * n.rate ≤ 99 * 1000000 := Int.mul_le_mul (by omega) m6 (by omega) (by omega)
  have hT0 : 0 ≤ max now n.latest := by omega
  have hT1 : max now n.latest ≤ 1000000000 := by omega
  obtain ⟨T, hT⟩ : ∃ T, T = max now n.latest := ⟨_, rfl⟩
  rw [← hT] at hmo hT0 hT1
  obtain ⟨a, hna⟩ : ∃ a, a = n.burst := ⟨_, rfl⟩
  obtain ⟨r, hnr⟩ : ∃ r, r = n.rate := ⟨_, rfl⟩
  obtain ⟨l, hnl⟩ : ∃ l, l = n.life := ⟨_, rfl⟩
  obtain ⟨gv, hng⟩ : ∃ gv, gv = n.given := ⟨_, rfl⟩
  rw [← hna, ← hnr] at hp0 hp1
  rw [← hnr] at m5 m6
  rw [← hna] at m3 m4
  obtain ⟨M, hM⟩ : ∃ M, M = (a - 1) * r := ⟨_, rfl⟩
  rw [← hM] at hp0 hp1
  have hun : ∀ w', Tryz.KChg own w w' kb key { n with latest := T } L o [(x, d)] → ∃ V pb db, w'.heap[kb]? = some (.cells #[V, .int .i64 l, .int .i64 a, .int .i64 r, .int .i64 T, .int .i64 gv, .pointer (some ⟨pb, 0, none⟩), .pointer (some ⟨db, 0, none⟩)] 50 (0, 0)) ∧
      (Calls Tryz.prog 23 #[.pointer (some ⟨db, 0, none⟩), .string u] w' fun e w2 => e = .returned (.int .i64 0) ∧ Below w'.heap.size w' w2) ∧
      (∀ w2 (v : Int), Below w'.heap.size w' w2 → Calls Tryz.prog 24 #[.pointer (some ⟨db, 0, none⟩), .string u, .int .i64 v] w2 fun e w3 => (∃ v, e = .returned v) ∧ Wo own w w3) := fun w' hc => by
    obtain ⟨own', hK, ho⟩ := hc.ex
    obtain ⟨V, pb, db, ok, op, od, h1, h2, h3, h4, h5, h6, h7, h8⟩ := hK.ex
    have huk : (Tryz.txtKy).ok u := by show u.size ≤ maxLen; unfold maxLen; omega
    refine ⟨V, pb, db, by rw [hna, hnr, hnl, hng]; exact h1, ?_, fun w2 v hb => ?_⟩
    · refine (Tryz.untilS_one h5 u huk).mono fun e w2 ⟨e1, e2⟩ => ⟨?_, e2⟩
      rw [if_neg hxu] at e1
      exact e1
    · have h5m := h5.keep (w' := w2) (fun k e => hb.block k (h5.lt k e)) hb.size
      refine (Tryz.putS_other h5m u v (by unfold maxLen; omega) (by unfold maxLen; omega) hxu).mono fun e w3 ⟨e1, e2⟩ => ⟨e1, ?_⟩
      exact (hc.wo.below hb hc.wo.size).step (fun k e => ho k (h8 k e).1) e2
  have k1 := Se.wrap_in (a - 1) (by omega) (by omega)
  have k2 : IntKind.i64.wrap ((a - 1) * r) = M := by rw [hM]; exact Se.wrap_in _ (by omega) (by omega)
  have k3 := Se.wrap_in (0 - M) (by omega) (by omega)
  have k3' := Se.wrap_in (-M) (by omega) (by omega)
  have k4 := Se.wrap_in (0 - M - T) (by omega) (by omega)
  have k4' := Se.wrap_in (-M - T) (by omega) (by omega)
  have hw1 : ¬ (0 - M - T > 0) := by omega
  have hw2 : ¬ (-M - T > 0) := by omega
  have k5 := Se.wrap_in (max 0 T + r) (by omega) (by omega)
  clear h hL hD m1 m2 hna hnr hnl hng hT hM hl0 hl1 hn0 hn1 hu1 hu2 hx2 hxu
  go_enter Tryz.func10, Tryz.ntmps10
  go_upto_region 5 with (first
    | (go_at_call 20; refine hiu.mono ?_; clear hiu; rintro e w1 ⟨rfl, rfl⟩)
    | (go_at_call 21; refine hit.mono ?_; clear hit; rintro e w1 ⟨rfl, rfl⟩)
    | (go_at_call 22; refine hmo.mono ?_; clear hmo; rintro e w2 ⟨⟨v, rfl⟩, hc2⟩; obtain ⟨V, pb, db, hb2, hu2, hp2⟩ := hun w2 hc2; clear hun; have c7 : w2.cell? ⟨kb, 7, none⟩ = some (.pointer (some ⟨db, 0, none⟩)) := cell_of_row w2 kb 7 _ _ _ hb2)
    | (go_at_call 23; refine hu2.mono ?_; clear hu2; rintro e w3 ⟨rfl, hb3⟩)
    | fail)
  have hkl : kb < w2.heap.size := block_lt hb2
  have hb3k : w3.heap[kb]? = _ := (hb3.block kb hkl).trans hb2
  have d2 : w3.cell? ⟨kb, 2, none⟩ = some (.int .i64 a) := cell_of_row w3 kb 2 _ _ _ hb3k
  have d3 : w3.cell? ⟨kb, 3, none⟩ = some (.int .i64 r) := cell_of_row w3 kb 3 _ _ _ hb3k
  have d4 : w3.cell? ⟨kb, 4, none⟩ = some (.int .i64 T) := cell_of_row w3 kb 4 _ _ _ hb3k
  have d7 : w3.cell? ⟨kb, 7, none⟩ = some (.pointer (some ⟨db, 0, none⟩)) := cell_of_row w3 kb 7 _ _ _ hb3k
  have hput := fun m => hp2 (w3.drewN m) (max 0 T + r) (belowN hb3 m)
  clear hp2 hc2 hb2 c7 hb3k hb3
  go_quiet (fail)
  generalize nq = n1
  go_wp2
  (refine Go.Lq.wp_region_lastN (fun w' => ∃ k, w' = _root_.Go.World.drewN _ k) 16 (by kernel_rfl) (by kernel_rfl) ⟨1, rfl⟩ ?_; dsimp only [List.dropLast]; (repeat (quiet_step (fail))); refine wpQuiet_nil ?_; intro _ hw'; obtain ⟨nq, hw''⟩ := hw'; subst hw''; refine Go.Lq.wpOp_last rfl rfl ?_; unfold Oper.wp; go_simp)
  refine (hput (n1 + nq)).mono ?_
  rintro e w4 ⟨⟨v4, rfl⟩, hc4⟩
  go_wp2
  go_ret2
  exact ⟨rfl, hc4⟩
end Go.Proofs
