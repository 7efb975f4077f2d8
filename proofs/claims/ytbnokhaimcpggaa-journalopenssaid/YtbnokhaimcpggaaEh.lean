/-
  area.flag, unflagged.
-/
import Derived.Test.YtbnokhaimcpggaaEg
namespace Go.Proofs
open Go.RowKit Go.Dk
theorem Dk.src_row {w : World} {g : Nat} {B : List UInt8} {T : TypeId} {fr : Nat × Nat} (h : w.heap[g]? = some (.cells (Lib.byteCells B).toArray T fr)) (c : Nat) : Dk.Src w (.slice (some ⟨g, 0, none⟩) B.length c) B :=
  ⟨some ⟨g, 0, none⟩, c, rfl, .inr ⟨g, 0, rfl, Dk.block_lt h, fun j u hj => by rw [Nat.zero_add, cell_of_row _ _ _ _ _ _ h, List.getElem?_toArray]; exact hj⟩⟩
theorem Dk.row_row {w : World} {g : Nat} {B : List UInt8} {T : TypeId} {fr : Nat × Nat} (h : w.heap[g]? = some (.cells (Lib.byteCells B).toArray T fr)) : Dk.Row w g B :=
  ⟨Dk.block_lt h, fun j u hj => by rw [cell_of_row _ _ _ _ _ _ h, List.getElem?_toArray]; exact hj⟩
set_option maxRecDepth 20000 in
set_option maxHeartbeats 2000000 in
theorem Try.flag_any {w : World} {own : Nat → Prop} {x : Nat} {s : DS} (h : Try.Dsk w own x s) {q : Nat} (hc : s.Can (q + 1)) (hn : 2 ≤ s.n) (side : Nat) (hs : side ≤ 1) (p : Nat) (hp : p < 64 * half s.n) :
    Calls Try.prog 57 #[Dk.arV x side, .int .i64 p] w fun e w' =>
      e = .returned (.bool (s.op (.wr (ablk s.n side p) ((blk s.view (ablk s.n side p)).set (p % 64) 1))).2) ∧ Try.Chg own w w' x (s.op (.wr (ablk s.n side p) ((blk s.view (ablk s.n side p)).set (p % 64) 1))).1 := by
  obtain ⟨hvl, hn0, hn1⟩ := h.len
  have hhl := Dk.half_le hn1
  have hbl := Dk.ablk_lt (side := side) hn1 hs hp
  have hbb := blk_length hvl hbl
  have hbk : ∀ W, Below w.heap.size w W → Calls Try.prog 77 #[.agg #[.pointer (some ⟨x, 0, none⟩), .int .i64 side], .int .i64 p] W _ := fun W hW => Try.ablock_any (h.below hW) hn side hs p (by omega)
  have hrd : ∀ W, Below w.heap.size w W → Calls Try.prog 32 #[.pointer (some ⟨x, 0, none⟩), .int .i64 (ablk s.n side p)] W _ := fun W hW => by
    obtain ⟨l, t, V, hm, hf⟩ := (h.below hW).ex
    exact Try.read_ok hm rfl hc.dead _ hbl
  have hwt := fun W (hW : Below w.heap.size w W) v (hv : Dk.Src W v ((blk s.view (ablk s.n side p)).set (p % 64) 1)) => Try.wrote_any (h.below hW) hc _ hbl _ (by rw [List.length_set, hbb]; omega) v hv
  have hbox0 : Try.Box (w.alloc (.cells #[.pointer (some ⟨x, 0, none⟩), .int .i64 side] 98)) w.heap.size x side := heap_alloc_new w _
  have hb0 := Dk.belowA w (.cells #[.pointer (some ⟨x, 0, none⟩), .int .i64 side] 98)
  have c0 := hbox0.c0
  have c1 := hbox0.c1
  have qm : (p : Int) % 64 = ((p % 64 : Nat) : Int) := by omega
  have qm2 : p % 64 < 64 := Nat.mod_lt _ (by omega)
  generalize ablk s.n side p = I at *
  generalize hB : blk s.view I = B at *
  clear h hB
  generalize hPP : p % 64 = P at *
  have HP : Hid (p % 64 = P) := hPP
  clear hPP
  unfold Dk.arV
  go_enter Try.func57, Try.ntmps57
  go_wp2
  go_region_with (first
    | (go_at_call 77; refine (hbk _ (by first | exact hb0 | exact hb0.drew)).mono ?_; rintro e w2 ⟨rfl, h2⟩; have hb2 : Below w.heap.size w w2 := hb0.drew.trans (h2.mono hb0.size); have d0 := Dk.cellB h2 (Dk.block_lt hbox0) c0)
    | (go_at_call 32; refine (hrd _ hb2).mono ?_; rintro e w3 ⟨rfl, h3, h3b⟩)
    | fail)
  all_goals
    have hb3 : Below w.heap.size w w3 := hb2.trans (h3b.mono hb2.size)
    have hbx3 : Try.Box w3 w.heap.size x side := ((hbox0.below (Below.refl _ _).drew).below h2).below h3b
    have hsz2 : w.heap.size < w2.heap.size := Nat.lt_of_lt_of_le (Dk.block_lt hbox0) h2.size
    have cc : ∃ u, w3.cell? ⟨w2.heap.size, P, none⟩ = some u := ⟨_, by rw [cell_of_row _ _ _ _ _ _ h3, List.getElem?_toArray, List.getElem?_eq_getElem (by rw [Dk.byteCells_len, hbb]; exact qm2)]⟩
    obtain ⟨u, cc⟩ := cc
    have ff : w3.frozen? ⟨w2.heap.size, P, none⟩ = false := frozen_of_row _ _ _ _ _ h3
    have hset : (w3.setCell ⟨w2.heap.size, P, none⟩ (.int .u8 1)).heap[w2.heap.size]? = some (.cells (Lib.byteCells (B.set (P) 1)).toArray 5 (0, 0)) := by
      rw [heap_setCell_same w3 _ _ _ _ _ h3]
      simp only [Lib.byteCells, List.map_set]
      simp
    have hbs : Below w2.heap.size w3 (w3.setCell ⟨w2.heap.size, P, none⟩ (.int .u8 1)) := (Below.refl w2.heap.size w3).setCell (by simp) _
    have hbx4 : Try.Box (w3.setCell ⟨w2.heap.size, P, none⟩ (.int .u8 1)) w.heap.size x side := (hbs.block _ hsz2).trans hbx3
    have hb4 : Below w.heap.size w (w3.setCell ⟨w2.heap.size, P, none⟩ (.int .u8 1)) := hb3.trans (hbs.mono (by omega))
    generalize hW4 : w3.setCell ⟨w2.heap.size, P, none⟩ (.int .u8 1) = W4 at *
    clear hrd c0 c1 hbx3 hbs d0
    have e0 := hbx4.c0
    have e1 := hbx4.c1
    go_wp2
    go_region_with (first
      | (go_at_call 77; refine (hbk _ (by first | exact hb4 | exact hb4.drew)).mono ?_; rintro e w5 ⟨rfl, h5⟩; have hb5 : Below w.heap.size w w5 := hb4.drew.trans (h5.mono hb4.size); have f0 := Dk.cellB h5 (Dk.block_lt hbx4) e0; have hsr := Dk.src_row ((h5.block _ (Dk.block_lt hset)).trans hset) 64; rw [List.length_set, hbb] at hsr)
      | (go_at_call 49; refine (hwt _ hb5 _ hsr).mono ?_; rintro e w6 ⟨rfl, h6⟩)
      | fail)
    all_goals
      clear hbk hwt
      go_wp2
      go_ret
      exact ⟨rfl, Try.Chg.pre hb5 h6⟩
end Go.Proofs
