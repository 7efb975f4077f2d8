/-
  Copy.
-/
import Derived.Test.YtnfpocpeglfdbaaDt
import Derived.Deep.Onto
namespace Go.Proofs
open Go.RowKit Go.Dk
def Try.CopyOk (w : World) (s : DS) (T : List Nat) (e : Ending) (w' : World) : Prop :=
  ∃ y l t V c, e = .returned (.pointer (some ⟨y, 0, none⟩)) ∧ Try.Mem w' y l t V { s with ct := c } T ∧ Below w.heap.size w w' ∧ ∀ k, Dk.foot y l t V k → w.heap.size ≤ k
theorem Dk.ints_one (T : List Nat) : ∀ u ∈ Dk.ints T, u.oneCell' = true := fun u hu => by
  obtain ⟨i, _, rfl⟩ := List.mem_map.1 hu; rfl
theorem Dk.wrCs_one' (W : List Wr) : ∀ u ∈ Dk.wrCs W, u.oneCell' = true := fun u hu => by
  obtain ⟨l, hl, hu⟩ := List.mem_flatten.1 hu
  obtain ⟨p, _, rfl⟩ := List.mem_map.1 hl
  rcases List.mem_cons.1 hu with rfl | hu
  · rfl
  · obtain ⟨b, _, rfl⟩ := List.mem_map.1 hu; rfl
theorem Dk.row_slice {w : World} {B : Nat} {e : TypeId} {size : Nat} {v : Value} {n : Nat} {xs : List Value} (h : w.ownsRow B e size v n xs) : ∃ a c, v = .slice a n c := by
  rcases h.2 with ⟨e1, e2⟩ | ⟨g, cap, cur, e1, -⟩
  · exact ⟨none, 0, by rw [e1, e2]⟩
  · exact ⟨_, _, e1⟩
set_option maxRecDepth 20000 in
set_option maxHeartbeats 1000000 in
theorem Try.copy_any {w : World} {x l t : Nat} {V : Value} {s : DS} {T : List Nat} (h : Try.Mem w x l t V s T) :
    Calls Try.prog 21 #[.pointer (some ⟨x, 0, none⟩)] w fun e w' => Try.CopyOk w s T e w' := by
  obtain ⟨va, vc, rfl⟩ : ∃ va vc, V = .slice va s.W.length vc := Dk.row_slice h.hv
  have c0 : w.cell? ⟨x, 0, none⟩ = some (.slice (some ⟨l, 0, none⟩) s.n s.n) := h.c0 0 _ rfl
  have c1 : w.cell? ⟨x, 1, none⟩ = some (.slice va s.W.length vc) := h.c0 1 _ rfl
  have c2 : w.cell? ⟨x, 2, none⟩ = some (.slice (some ⟨t, 0, none⟩) s.n s.ct) := h.c0 2 _ rfl
  have c3 : w.cell? ⟨x, 3, none⟩ = some (.bool s.dead) := h.c0 3 _ rfl
  have c4 : w.cell? ⟨x, 4, none⟩ = some (.bool s.fset) := h.c0 4 _ rfl
  have c5 : w.cell? ⟨x, 5, none⟩ = some (.int .i64 s.fl) := h.c0 5 _ rfl
  have c6 : w.cell? ⟨x, 6, none⟩ = some (.int .i64 s.fk) := h.c0 6 _ rfl
  have c7 : w.cell? ⟨x, 7, none⟩ = some (.int .i64 s.ft) := h.c0 7 _ rfl
  have c8 : w.cell? ⟨x, 8, none⟩ = some (.int .i64 s.wrote) := h.c0 8 _ rfl
  have c9 : w.cell? ⟨x, 9, none⟩ = some (.int .i64 s.synced) := h.c0 9 _ rfl
  have c10 : w.cell? ⟨x, 10, none⟩ = some (.int .i64 s.falls) := h.c0 10 _ rfl
  go_enter Try.func21, Try.ntmps21
  go_upto_region 2 with (fail)
  generalize hW1 : w.alloc _ = W1
  have hb1 : Below w.heap.size w W1 := by rw [← hW1]; exact (Below.refl w.heap.size w).alloc (Nat.le_refl _) _
  have hy1 : W1.heap[w.heap.size]? = some (.cells (Dk.dsk l t (.slice va s.W.length vc) s).toArray 65 (0, 0)) := by rw [← hW1]; exact heap_alloc_new w _
  have hs1 : w.heap.size < W1.heap.size := by rw [← hW1]; simp
  have hxl : x < w.heap.size := Dk.block_lt h.hx
  have hM1 : Try.Mem W1 x l t (.slice va s.W.length vc) s T := h.keep fun k e => hb1.block k (h.foot_lt k e)
  clear hW1 c0 c1 c2 c3 c4 c5 c6 c7 c8 c9 c10
  have d0 : W1.cell? ⟨x, 0, none⟩ = some (.slice (some ⟨l, 0, none⟩) s.n s.n) := hM1.c0 0 _ rfl
  have y0 : W1.cell? ⟨w.heap.size, 0, none⟩ = some (.slice (some ⟨l, 0, none⟩) s.n s.n) := by rw [cell_of_row _ _ _ _ _ _ hy1]; rfl
  have yf : ∀ j, W1.frozen? ⟨w.heap.size, j, none⟩ = false := fun j => frozen_of_row _ _ _ _ _ hy1
  have hmk := Try.run_makeL s.n h.n1
  go_upto_region 3 with (fail)
  obtain ⟨l', hl'⟩ : ∃ l', l' = W1.heap.size := ⟨_, rfl⟩
  rw [← hl']
  generalize hW2 : World.alloc _ _ = W2
  have hyl : w.heap.size < l' := by omega
  have hb2 : Below w.heap.size w W2 := by
    rw [← hW2]
    exact (hb1.setCell (p := ⟨w.heap.size, 0, none⟩) (Nat.le_refl _) _).alloc (by simp; omega) _
  have hy2 : W2.heap[w.heap.size]? = some (.cells (Dk.dsk l' t (.slice va s.W.length vc) s).toArray 65 (0, 0)) := by
    rw [← hW2, Below.heap_alloc _ _ _ (by simp; omega)]
    exact heap_setCell_same W1 w.heap.size 0 _ _ _ hy1
  have hl2 : W2.heap[l']? = some (.cells (Lib.byteCells (List.replicate (64 * s.n) 0)).toArray 87 (0, 0)) := by
    have h1 := heap_alloc_new (W1.setCell ⟨w.heap.size, 0, none⟩ (.slice (some ⟨l', 0, none⟩) s.n s.n)) (.cells (Lib.byteCells (List.replicate (64 * s.n) 0)).toArray 87)
    rw [show (W1.setCell ⟨w.heap.size, 0, none⟩ (.slice (some ⟨l', 0, none⟩) s.n s.n)).heap.size = l' by simp [hl']] at h1
    rw [← hW2]; exact h1
  have hM2 : Try.Mem W2 x l t (.slice va s.W.length vc) s T := h.keep fun k e => hb2.block k (h.foot_lt k e)
  clear hW2 hM1 d0 y0 yf hmk hy1 hb1 hl' hs1
  have d0 : W2.cell? ⟨x, 0, none⟩ = some (.slice (some ⟨l, 0, none⟩) s.n s.n) := hM2.c0 0 _ rfl
  have y0 : W2.cell? ⟨w.heap.size, 0, none⟩ = some (.slice (some ⟨l', 0, none⟩) s.n s.n) := by rw [cell_of_row _ _ _ _ _ _ hy2]; rfl
  have hcp : ∀ (W : World), W.heap = W2.heap → ∀ ty, (Builtin.copy_ #[59, 59] ty #[.slice (some ⟨l', 0, none⟩) s.n s.n, .slice (some ⟨l, 0, none⟩) s.n s.n]).run Try.prog W = .ok (goInt s.n) (W.setCells l' 0 (Lib.byteCells s.L)) := fun W hW ty => by
    have hm' : Try.Mem W x l t (.slice va s.W.length vc) s T := hM2.keep fun k _ => by rw [hW]
    have hl2' : W.heap[l']? = some (.cells (Lib.byteCells (List.replicate (64 * s.n) 0)).toArray 87 (0, 0)) := by rw [hW]; exact hl2
    have := Dk.run_copy_many (P := Try.prog) W 59 59 ty 87 64 l' 0 s.n s.n ⟨l, 0, none⟩ s.n s.n (Lib.byteCells s.L) Try.underlying59 (by kernel_rfl) (by rw [Dk.byteCells_len, hm'.lL]; simp [Nat.mul_comm])
      (fun j v hj => by rw [Addr.add_mid, Nat.zero_add, cell_of_row _ _ _ _ _ _ hm'.hl]; simpa using hj)
      (fun j hj => by
        rw [Dk.byteCells_len, hm'.lL] at hj
        rw [Nat.zero_add, cell_of_row _ _ _ _ _ _ hl2', List.getElem?_toArray, List.getElem?_eq_getElem (by rw [Dk.byteCells_len, List.length_replicate]; exact hj)]; rfl)
      (fun j _ => frozen_of_row _ _ _ _ _ hl2') (fun v hv => by obtain ⟨u, _, rfl⟩ := List.mem_map.1 hv; rfl)
    rw [show Nat.min s.n s.n = s.n from Nat.min_self _] at this
    exact this
  have HM2 : Hid (Try.Mem W2 x l t (.slice va s.W.length vc) s T) := hM2
  have Hy2 : Hid _ := hy2
  have Hl2 : Hid _ := hl2
  have Hb2 : Hid _ := hb2
  clear hM2 hy2 hl2 hb2
  go_cut [] (fun wx => ∃ W : World, W.heap = W2.heap ∧ W.os = W2.os ∧ W.tape = W2.tape ∧ W.output = W2.output ∧ wx = W.setCells l' 0 (Lib.byteCells s.L))
  case first =>
    go_region_law (refine step_copy_runI rfl _ _ 59 59 rfl (.slice (some ⟨l', 0, none⟩) s.n s.n) (.slice (some ⟨l, 0, none⟩) s.n s.n) (by simp [Act.eval]) (by simp [Act.eval]) (hcp _ (by rfl) _) ?_)
    all_goals
      go_wp2
      go_meet
      case rel => exact ⟨_, by rfl, by rfl, by rfl, by rfl, rfl⟩
  case rest =>
    obtain ⟨W, e1, e2, e3, e4, rfl⟩ := hcut
    obtain ⟨s1, s2, s3, s4, s5⟩ := Dk.setCells_same l' (Lib.byteCells s.L) 0 W
    generalize hW3 : W.setCells l' 0 (Lib.byteCells s.L) = W3 at *
    have hL := HM2.out.lL
    have hl3 : W3.heap[l']? = some (.cells (Lib.byteCells s.L).toArray 87 (0, 0)) := by
      have h1 := Dk.heap_setCells l' 87 (Lib.byteCells s.L) 0 W _ (by rw [e1]; exact Hl2.out) (by rw [Dk.byteCells_len, Dk.byteCells_len, List.length_replicate, hL]; omega)
      rw [← hW3, h1]
      unfold Dk.splice
      rw [List.take_zero, List.nil_append, List.drop_of_length_le (by rw [Dk.byteCells_len, Dk.byteCells_len, List.length_replicate, hL]; omega), List.append_nil]
    have hy3 : W3.heap[w.heap.size]? = some (.cells (Dk.dsk l' t (.slice va s.W.length vc) s).toArray 65 (0, 0)) := by rw [s5 _ (by omega), e1]; exact Hy2.out
    have hb3 : Below w.heap.size w W3 := ⟨s1.trans (e2.trans Hb2.out.os), s2.trans (e3.trans Hb2.out.tape), s3.trans (e4.trans Hb2.out.output), by rw [s4, e1]; exact Hb2.out.size, fun k hk => by rw [s5 k (by omega), e1]; exact Hb2.out.block k hk⟩
    have hM3 : Try.Mem W3 x l t (.slice va s.W.length vc) s T := h.keep fun k e => hb3.block k (h.foot_lt k e)
    have hlt3 := Dk.block_lt hl3
    clear hW3 s1 s2 s3 s4 s5 e1 e2 e3 e4 HM2 Hy2 Hl2 Hb2 d0 y0 hcp hL
    have d1 : W3.cell? ⟨x, 1, none⟩ = some (.slice va s.W.length vc) := hM3.c0 1 _ rfl
    have y1 : W3.cell? ⟨w.heap.size, 1, none⟩ = some (.slice va s.W.length vc) := by rw [cell_of_row _ _ _ _ _ _ hy3]; rfl
    have yf : ∀ j, W3.frozen? ⟨w.heap.size, j, none⟩ = false := fun j => frozen_of_row _ _ _ _ _ hy3
    have hcw := Try.clone_w hM3.hv (Dk.wrCs_one' _) h.w1
    have HM3 : Hid _ := hM3
    have Hy3 : Hid _ := hy3
    have Hl3 : Hid _ := hl3
    have Hb3 : Hid _ := hb3
    clear hM3 hy3 hl3 hb3
    go_upto_region 5 with (first
      | (go_at_call 44; refine hcw.mono ?_; clear hcw; rintro e w4 ⟨V', rfl, hv4, hb4⟩; obtain ⟨va', vc', rfl⟩ := Dk.row_slice hv4; have y1' : w4.cell? ⟨w.heap.size, 1, none⟩ = some (.slice va s.W.length vc) := (hb4.cell (p := ⟨w.heap.size, 1, none⟩) (by show w.heap.size < _; omega)).trans y1; have yf' : ∀ j, w4.frozen? ⟨w.heap.size, j, none⟩ = false := fun j => (hb4.frozen (p := ⟨w.heap.size, j, none⟩) (by show w.heap.size < _; omega)).trans (yf j))
      | fail)
    generalize hW5 : w4.setCell ⟨w.heap.size, 1, none⟩ (.slice va' s.W.length vc') = W5
    have h5 : ∀ k, k ≠ w.heap.size → W5.heap[k]? = w4.heap[k]? := fun k hk => by rw [← hW5]; exact Below.heap_setCell w4 ⟨w.heap.size, 1, none⟩ _ k hk
    have hz5 : W5.heap.size = w4.heap.size := by rw [← hW5]; simp
    have hz4 := hb4.size
    have hy5 : W5.heap[w.heap.size]? = some (.cells (Dk.dsk l' t (.slice va' s.W.length vc') s).toArray 65 (0, 0)) := by
      rw [← hW5]
      exact heap_setCell_same w4 w.heap.size 1 _ _ _ ((hb4.block _ (by omega)).trans Hy3.out)
    have hl5 : W5.heap[l']? = some (.cells (Lib.byteCells s.L).toArray 87 (0, 0)) := by rw [h5 _ (by omega), hb4.block _ hlt3]; exact Hl3.out
    have hv5 : W5.ownsRow W3.heap.size 89 65 (.slice va' s.W.length vc') s.W.length (Dk.wrCs s.W) := Dk.row_heap hv4 fun k e => h5 k (by have := (hv4.lt k e).1; omega)
    have hb5 : Below w.heap.size w W5 := by
      rw [← hW5]
      exact (Hb3.out.trans (hb4.mono Hb3.out.size)).setCell (p := ⟨w.heap.size, 1, none⟩) (Nat.le_refl _) _
    have hM5 : Try.Mem W5 x l t (.slice va s.W.length vc) s T := h.keep fun k e => hb5.block k (h.foot_lt k e)
    have d2 : W5.cell? ⟨x, 2, none⟩ = some (.slice (some ⟨t, 0, none⟩) s.n s.ct) := hM5.c0 2 _ rfl
    have z2 : W5.cell? ⟨w.heap.size, 2, none⟩ = some (.slice (some ⟨t, 0, none⟩) s.n s.ct) := by rw [cell_of_row _ _ _ _ _ _ hy5]; rfl
    have zf : ∀ j, W5.frozen? ⟨w.heap.size, j, none⟩ = false := fun j => frozen_of_row _ _ _ _ _ hy5
    have hct := Try.clone_t (W := W5) (g := t) (n := s.n) (cap := s.ct) (xs := Dk.ints T) (by rw [Dk.ints, List.length_map]; exact h.lT) h.n0 (by have := h.n1; omega)
      (fun j u hj => by
        obtain ⟨r, e⟩ := hM5.ht
        rw [cell_of_row _ _ _ _ _ _ e, List.getElem?_toArray, List.getElem?_append_left (List.getElem?_eq_some_iff.1 hj).1]; exact hj) (hM5.foot_lt t (.inr (.inr (.inl rfl)))) (Dk.ints_one T)
    have Hy5 : Hid _ := hy5
    have Hl5 : Hid _ := hl5
    have Hv5 : Hid _ := hv5
    have Hb5 : Hid _ := hb5
    have hlt5 : w.heap.size < W5.heap.size := by omega
    have hll5 : l' < W5.heap.size := by omega
    have Hlt3 : Hid (w.heap.size < l' ∧ l' < W3.heap.size ∧ W3.heap.size ≤ W5.heap.size) := ⟨hyl, hlt3, by omega⟩
    clear hM5 hy5 hl5 hv5 hb5 hW5 h5 hz5 hz4 hv4 hb4 Hy3 Hl3 Hb3 HM3 d1 y1 yf y1' yf' hlt3 hyl
    go_wp2_with (first
      | (go_at_call 45; refine hct.mono ?_; clear hct; rintro e w6 ⟨t', c', rest, rfl, hc6, ht6, hge6, hb6⟩; have z2' : w6.cell? ⟨w.heap.size, 2, none⟩ = some (.slice (some ⟨t, 0, none⟩) s.n s.ct) := (hb6.cell (p := ⟨w.heap.size, 2, none⟩) hlt5).trans z2; have zf' : ∀ j, w6.frozen? ⟨w.heap.size, j, none⟩ = false := fun j => (hb6.frozen (p := ⟨w.heap.size, j, none⟩) hlt5).trans (zf j))
      | fail)
    go_ret
    have h7 : ∀ k, k ≠ w.heap.size → (w6.setCell ⟨w.heap.size, 2, none⟩ (.slice (some ⟨t', 0, none⟩) s.n c')).heap[k]? = w6.heap[k]? := fun k hk => Below.heap_setCell w6 ⟨w.heap.size, 2, none⟩ _ k hk
    obtain ⟨g1, g2, g3⟩ := Hlt3.out
    have hfoot : ∀ k, (Value.slice va' s.W.length vc').ownBlock = some k → W3.heap.size ≤ k ∧ k < W5.heap.size := fun k e => World.ownsRow.lt Hv5.out k e
    refine ⟨w.heap.size, l', t', .slice va' s.W.length vc', c', rfl, ⟨?_, ?_, ⟨rest, ?_⟩, ?_, by omega, by omega, by omega, ?_, h.lL, h.lT, h.good, h.n0, h.n1, h.w1, hc6⟩, ?_, ?_⟩
    · exact heap_setCell_same w6 w.heap.size 2 _ _ _ ((hb6.block _ hlt5).trans Hy5.out)
    · rw [h7 _ (by omega), hb6.block _ hll5]; exact Hl5.out
    · rw [h7 _ (by omega)]; exact ht6
    · have := Dk.row_heap Hv5.out (w' := w6.setCell ⟨w.heap.size, 2, none⟩ (.slice (some ⟨t', 0, none⟩) s.n c')) fun k e => by
        have := hfoot k e
        rw [h7 _ (by omega), hb6.block _ this.2]
      exact World.ownsRow.mono this (Nat.zero_le _)
    · intro k e
      have := hfoot k e
      exact ⟨by omega, by omega, by omega⟩
    · exact (Hb5.out.trans (hb6.mono Hb5.out.size)).setCell (p := ⟨w.heap.size, 2, none⟩) (Nat.le_refl _) _
    · rintro k (e | e | e | e)
      · omega
      · omega
      · omega
      · have := hfoot k e
        omega
end Go.Proofs
