/-
  A head is laid.
-/
import Derived.Test.YtbnokhaimcpggaaEo
namespace Go.Dk
theorem hd_len (h : Hd) : h.bytes.length = 64 := by simp [Hd.bytes, le_len]
end Go.Dk
namespace Go.Proofs
open Go.RowKit Go.Dk
theorem Dk.wpList_callP {P : Program} {ops : Array Oper} {rest : List Oper} {o : Oper} {a : Act} {w : World} {Q : Exit → Act → World → Prop} (hg : o.guard = none)
    (f : FuncId) (args : Array Value) (hrun : (execOp a.eval o).run P w = .ok (.enter f args) w) {R : Ending → World → Prop}
    (hc : Calls P f args w R) (h : ∀ e w', R e w' → ∃ v, e = .returned v ∧ wpList P ops Q rest (a.put o.dst v) w') : wpList P ops Q (o :: rest) a w := by
  refine wpList_plain hg fun K hK => ?_
  unfold Oper.wp
  rw [hrun, Oper.upon_enter]
  refine hc.mono fun e w'' hh => ?_
  obtain ⟨v, rfl, h1⟩ := h e w'' hh
  exact hK _ _ h1
theorem Dk.one_bytes (b : List UInt8) : ∀ u ∈ Lib.byteCells b, u.oneCell' = true := fun u hu => by obtain ⟨c, _, rfl⟩ := List.mem_map.1 hu; rfl
/-- An array is put into a block of its own. -/
theorem Try.fresh64 (w : World) (b : List UInt8) (hb : b.length = 64) : ∃ W, (Instr.storeAt 134 (.pointer (some ⟨w.heap.size, 0, none⟩)) (.agg (Lib.byteCells b).toArray)).run Try.prog (w.alloc (.cells (Lib.byteCells (List.replicate 64 0)).toArray 134)) = .ok () W ∧
    W.heap[w.heap.size]? = some (.cells (Lib.byteCells b).toArray 134 (0, 0)) ∧ Below w.heap.size w W ∧ W.heap.size = w.heap.size + 1 := by
  have hg := heap_alloc_new w (.cells (Lib.byteCells (List.replicate 64 0)).toArray 134)
  have hth : (w.alloc (.cells (Lib.byteCells (List.replicate 64 0)).toArray 134)).there w.heap.size 0 (Lib.byteCells b).toArray.size := fun j hj => ⟨by
    rw [Nat.zero_add, cell_of_row _ _ _ _ _ _ hg, List.getElem?_toArray, List.getElem?_eq_getElem (by rw [List.size_toArray, Dk.byteCells_len, hb] at hj; rw [Dk.byteCells_len, List.length_replicate]; exact hj)]; rfl, frozen_of_row _ _ _ _ _ hg⟩
  have hr := run_storeAt_mid (P := Try.prog) _ _ 0 134 (Lib.byteCells b).toArray hth (by rw [List.size_toArray, Dk.byteCells_len, hb]; exact Try.size_block) (all_oneCell_toArray (Dk.one_bytes b))
  have h1 := Dk.heap_setCells w.heap.size 134 (Lib.byteCells b) 0 _ _ hg (by rw [Dk.byteCells_len, Dk.byteCells_len, List.length_replicate, hb]; omega)
  have e : Dk.splice (Lib.byteCells (List.replicate 64 0)) 0 (Lib.byteCells b) = Lib.byteCells b := by
    unfold Dk.splice
    rw [List.take_zero, List.nil_append, List.drop_of_length_le (by rw [Dk.byteCells_len, Dk.byteCells_len, List.length_replicate, hb]; omega), List.append_nil]
  rw [e] at h1
  exact ⟨_, hr, h1, Dk.belowS (Dk.belowA w _) (Nat.le_refl _), by rw [(Dk.setCells_same _ _ _ _).2.2.2.1]; simp⟩
set_option maxRecDepth 20000 in
set_option maxHeartbeats 1000000 in
theorem Try.lay_ok {w : World} {own : Nat → Prop} {x : Nat} {s : DS} (h : Try.Dsk w own x s) {q : Nat} (hc : s.Can (q + 10)) (hn : 2 ≤ s.n) (hd : Hd) (hs : hd.side ≤ 1) (g1 : hd.gen < 4294967296) (g2 : hd.size < 4294967296) (g3 : hd.sum < 4294967296) (hfs : s.fset = false) :
    Calls Try.prog 75 #[Dk.hdV hd, .pointer (some ⟨x, 0, none⟩)] w fun r w' => r = .returned (.bool true) ∧ Try.Chg own w w' x (s.layH hd).1 := by
  have hbl := hd_len hd
  have hk : hd.gen % 2 < s.n := by omega
  have hby : ∀ W, Below w.heap.size w W → Calls Try.prog 93 #[Dk.hdV hd] W _ := fun W _ => Try.hbytes_any W hd hs g1 g2 g3
  have hpl : ∀ W, Calls Try.prog 92 #[Dk.hdV hd] W _ := fun W => Try.place_any W hd g1
  obtain ⟨r1, hr1⟩ : ∃ r1, r1 = s.op (.wr (hd.gen % 2) (hd.bytes.set 0 0)) := ⟨_, rfl⟩
  obtain ⟨r2, hr2⟩ : ∃ r2, r2 = r1.1.op .sy := ⟨_, rfl⟩
  obtain ⟨r3, hr3⟩ : ∃ r3, r3 = r2.1.op (.wr (hd.gen % 2) hd.bytes) := ⟨_, rfl⟩
  obtain ⟨r4, hr4⟩ : ∃ r4, r4 = r3.1.op .sy := ⟨_, rfl⟩
  have e1 : r1.2 = true ∧ r1.1.fset = false := by rw [hr1]; exact op_free _ _ hfs
  have e2 : r2.2 = true ∧ r2.1.fset = false := by rw [hr2]; exact op_free _ _ e1.2
  have e3 : r3.2 = true ∧ r3.1.fset = false := by rw [hr3]; exact op_free _ _ e2.2
  have e4 : r4.2 = true ∧ r4.1.fset = false := by rw [hr4]; exact op_free _ _ e3.2
  have hR : s.layH hd = r4 := by unfold DS.layH; simp only [andThen, ← hr1, e1.1, if_true, ← hr2, e2.1, ← hr3, e3.1, ← hr4]
  have k1 : r1.1.Can (q + 9) := by have := e1.1; rw [hr1] at this ⊢; exact (hc.op _ (DS.op_ok this)).2
  have k2 : r2.1.Can (q + 8) := by have := e2.1; rw [hr2] at this ⊢; exact (k1.op _ (DS.op_ok this)).2
  have k3 : r3.1.Can (q + 7) := by have := e3.1; rw [hr3] at this ⊢; exact (k2.op _ (DS.op_ok this)).2
  have n1 : r1.1.n = s.n := by rw [hr1, DS.op_n]
  have n2 : r2.1.n = s.n := by rw [hr2, DS.op_n, n1]
  have hw1 : ∀ B, Below w.heap.size w B → ∀ W, Below B.heap.size B W → ∀ v, Dk.Src W v (hd.bytes.set 0 0) → Calls Try.prog 49 #[.pointer (some ⟨x, 0, none⟩), .int .i64 (hd.gen % 2 : Nat), v] W fun r w' => r = .returned (.bool true) ∧ Try.Chg own B w' x r1.1 := fun B hB W hW v hv => by
    have := Try.wrote_any ((h.below hB).below hW) (m := q + 9) hc (hd.gen % 2) hk _ (by rw [List.length_set, hbl]; omega) v hv
    rw [← hr1, e1.1] at this
    exact this.mono fun r w' ⟨k1, k2⟩ => ⟨k1, Try.Chg.pre hW k2⟩
  have hs1 : ∀ B W, Try.Chg own B W x r1.1 → Calls Try.prog 50 #[.pointer (some ⟨x, 0, none⟩)] W fun r w' => r = .returned (.bool true) ∧ Try.Chg own B w' x r2.1 := fun B W hW => by
    obtain ⟨own1, a1, a2⟩ := hW.ex
    have := Try.synced_any a1 (m := q + 8) k1
    rw [← hr2, e2.1] at this
    exact this.mono fun r w' ⟨k1, k2⟩ => ⟨k1, Try.Chg.trans hW.wo a2 k2⟩
  have hw2 : ∀ B W0, Try.Chg own B W0 x r2.1 → ∀ W, Below W0.heap.size W0 W → ∀ v, Dk.Src W v hd.bytes → Calls Try.prog 49 #[.pointer (some ⟨x, 0, none⟩), .int .i64 (hd.gen % 2 : Nat), v] W fun r w' => r = .returned (.bool true) ∧ Try.Chg own B w' x r3.1 := fun B W0 hW0 W hW v hv => by
    obtain ⟨own1, a1, a2⟩ := hW0.ex
    have := Try.wrote_any (a1.below hW) (m := q + 7) k2 (hd.gen % 2) (by omega) _ (by rw [hbl]; omega) v hv
    rw [← hr3, e3.1] at this
    exact this.mono fun r w' ⟨k1, k2⟩ => ⟨k1, Try.Chg.trans hW0.wo a2 (Try.Chg.pre hW k2)⟩
  have hs2 : ∀ B W, Try.Chg own B W x r3.1 → Calls Try.prog 50 #[.pointer (some ⟨x, 0, none⟩)] W fun r w' => r = .returned (.bool true) ∧ Try.Chg own B w' x r4.1 := fun B W hW => by
    obtain ⟨own1, a1, a2⟩ := hW.ex
    have := Try.synced_any a1 (m := q + 6) k3
    rw [← hr4, e4.1] at this
    exact this.mono fun r w' ⟨k1, k2⟩ => ⟨k1, Try.Chg.trans hW.wo a2 k2⟩
  rw [hR]
  have hlt := h.lt
  generalize r4.1 = s4 at *
  generalize r3.1 = s3 at *
  generalize r2.1 = s2 at *
  generalize r1.1 = s1 at *
  clear hr1 hr2 hr3 hr4 hR e1 e2 e3 e4 k1 k2 k3 n1 n2 hc h hfs
  have hbox0 : (w.alloc (Dk.hdO hd 91)).heap[w.heap.size]? = some (Dk.hdO hd 91) := heap_alloc_new w _
  have hb0 := Dk.belowA w (Dk.hdO hd 91)
  generalize hd.gen % 2 = P at *
  unfold Dk.hdV at *
  unfold Dk.hdO at hbox0 hb0
  go_enter Try.func75, Try.ntmps75
  go_upto_region 1 with (fail)
  refine wp_region_lit ?_
  refine wpList_load_mid rfl 91 (.tmp 2) rfl w.heap.size 0 rfl [.int .i64 hd.side, .int .u32 hd.gen, .int .u32 hd.size, .int .u32 hd.sum] _ (fun j v hj => by rw [Nat.zero_add, cell_of_row _ _ _ _ _ _ hbox0]; simpa using hj) Try.underlying91 rfl (by kernel_rfl) ?_
  simp only [Act.put, List.setIfInBounds_toArray, List.set_cons_zero, List.set_cons_succ]
  refine Dk.wpList_callP rfl 93 #[.agg #[.int .i64 hd.side, .int .u32 hd.gen, .int .u32 hd.size, .int .u32 hd.sum]] (by kernel_rfl) (hby _ hb0) ?_
  rintro r w1 ⟨rfl, hb1⟩
  refine ⟨_, rfl, ?_⟩
  obtain ⟨W1, hst1, hg1, hbW1, hsz1⟩ := Try.fresh64 w1 hd.bytes hbl
  refine Dk.wpList_alloc rfl 134 rfl (Try.alloc64 _) ?_
  refine Dk.wpList_store rfl 134 (.tmp 5) (.tmp 8) rfl rfl rfl hst1 ?_
  simp only [Act.put, List.setIfInBounds_toArray, List.set_cons_zero, List.set_cons_succ]
  have hlen : (Lib.byteCells hd.bytes).length = 64 := by rw [Dk.byteCells_len, hbl]
  have hra1 : W1.rangeAt w1.heap.size 0 (Lib.byteCells hd.bytes) := fun j v hj => by rw [Nat.zero_add, cell_of_row _ _ _ _ _ _ hg1, List.getElem?_toArray]; exact hj
  obtain ⟨W2, hst2, hg2, hbW2, hsz2⟩ := Try.fresh64 W1 hd.bytes hbl
  have hg12 : W2.heap[w1.heap.size]? = some (.cells (Lib.byteCells hd.bytes).toArray 134 (0, 0)) := (hbW2.block _ (by omega)).trans hg1
  have hbx2 : W2.heap[w.heap.size]? = some (.cells #[.int .i64 hd.side, .int .u32 hd.gen, .int .u32 hd.size, .int .u32 hd.sum] 91 (0, 0)) := (hbW2.block _ (by have := hb1.size; simp at this; omega)).trans ((hbW1.block _ (by have := hb1.size; simp at this; omega)).trans ((hb1.block _ (by simp)).trans hbox0))
  have hbw2 : Below w.heap.size w W2 := ((hb0.trans (hb1.mono hb0.size)).trans (hbW1.mono (by have := hb1.size; simp at this; omega))).trans (hbW2.mono (by have := hb1.size; simp at this; omega))
  have hs6 : w.heap.size < w1.heap.size := by have := hb1.size; simp at this; omega
  generalize hBB : Lib.byteCells hd.bytes = BB at *
  go_upto_region 2 with (fail)
  refine wp_region_lit ?_
  refine wpList_load_mid rfl 134 (.tmp 5) rfl w1.heap.size 0 rfl BB _ hra1 Try.underlying134 rfl (by rw [hlen]; exact Try.size_block) ?_
  refine Dk.wpList_alloc rfl 134 rfl (Try.alloc64 _) ?_
  refine Dk.wpList_store rfl 134 (.tmp 6) (.tmp 9) rfl rfl rfl hst2 ?_
  simp only [Act.put, List.setIfInBounds_toArray, List.set_cons_zero, List.set_cons_succ]
  rw [hsz1] at hg2
  have hc6 : ∃ u, W2.cell? ⟨w1.heap.size + 1, 0, none⟩ = some u := ⟨_, by rw [cell_of_row _ _ _ _ _ _ hg2, List.getElem?_toArray, List.getElem?_eq_getElem (by omega)]⟩
  obtain ⟨u6, hc6⟩ := hc6
  have hf6 : W2.frozen? ⟨w1.heap.size + 1, 0, none⟩ = false := frozen_of_row _ _ _ _ _ hg2
  have hset := heap_setCell_same W2 (w1.heap.size + 1) 0 _ _ (.int .u8 0) hg2
  have hst : BB.toArray.setIfInBounds 0 (.int .u8 0) = (Lib.byteCells (hd.bytes.set 0 0)).toArray := by rw [← hBB]; simp [Lib.byteCells, List.map_set]
  rw [hst] at hset
  have ho := fun k (hk : k ≠ w1.heap.size + 1) => Below.heap_setCell W2 ⟨w1.heap.size + 1, 0, none⟩ (.int .u8 0) k hk
  have hg13 := (ho w1.heap.size (by omega)).trans hg12
  have hbx3 := (ho w.heap.size (by omega)).trans hbx2
  have hbw3 : Below w.heap.size w (W2.setCell ⟨w1.heap.size + 1, 0, none⟩ (.int .u8 0)) := hbw2.setCell (by simp; omega) _
  generalize hW3 : W2.setCell ⟨w1.heap.size + 1, 0, none⟩ (.int .u8 0) = W3 at *
  clear hst1 hst2 hg1 hg2 hbW1 hbW2 hra1 hg12 hbx2 hbw2 ho hst hby
  go_upto_region 4 with (fail)
  simp only [hsz1]
  go_cut [4] (fun b wx => b = .bool true ∧ Try.Chg own w wx x s4)
  case first =>
    have e0 : W3.cell? ⟨w.heap.size, 0, none⟩ = some (.int .i64 hd.side) := by rw [cell_of_row _ _ _ _ _ _ hbx3]; rfl
    have e1 : W3.cell? ⟨w.heap.size, 1, none⟩ = some (.int .u32 hd.gen) := by rw [cell_of_row _ _ _ _ _ _ hbx3]; rfl
    have e2 : W3.cell? ⟨w.heap.size, 2, none⟩ = some (.int .u32 hd.size) := by rw [cell_of_row _ _ _ _ _ _ hbx3]; rfl
    have e3 : W3.cell? ⟨w.heap.size, 3, none⟩ = some (.int .u32 hd.sum) := by rw [cell_of_row _ _ _ _ _ _ hbx3]; rfl
    have hnb : ∀ k, w.heap.size ≤ k → ¬ own k := fun k hk e => by have := hlt k e; omega
    have hL3 : w.heap.size < W3.heap.size := Dk.block_lt hbx3
    have hkb : ∀ W', Dk.Wo own W3 W' → W'.cell? ⟨w.heap.size, 0, none⟩ = some (.int .i64 hd.side) ∧ W'.cell? ⟨w.heap.size, 1, none⟩ = some (.int .u32 hd.gen) ∧ W'.cell? ⟨w.heap.size, 2, none⟩ = some (.int .u32 hd.size) ∧ W'.cell? ⟨w.heap.size, 3, none⟩ = some (.int .u32 hd.sum) := fun W' hW' => by
      have hb := (hW'.block _ hL3 (hnb _ (Nat.le_refl _))).trans hbx3
      refine ⟨?_, ?_, ?_, ?_⟩ <;> (rw [cell_of_row _ _ _ _ _ _ hb]; rfl)
    have hwb : ∀ W W', Dk.Wo own W3 W → Below W.heap.size W W' → Dk.Wo own W3 W' := fun W W' h1 h2 => h1.below h2 h1.size
    have hsr5 : ∀ W', Dk.Wo own W3 W' → Dk.Src W' (.slice (some ⟨w1.heap.size + 1, 0, none⟩) 64 64) (hd.bytes.set 0 0) := fun W' hW' => by
      have := Dk.src_row ((hW'.block _ (Dk.block_lt hset) (hnb _ (by omega))).trans hset) 64
      rw [List.length_set, hbl] at this
      exact this
    have hsr6 : ∀ W', Dk.Wo own W3 W' → Dk.Src W' (.slice (some ⟨w1.heap.size, 0, none⟩) 64 64) hd.bytes := fun W' hW' => by
      have := (hW'.block _ (Dk.block_lt hg13) (hnb _ (by omega))).trans hg13
      rw [← hBB] at this
      have := Dk.src_row this 64
      rw [hbl] at this
      exact this
    have hw0 := Dk.Wo.refl own W3
    have hb33 := Below.refl W3.heap.size W3
    have hw1 := hw1 W3 hbw3
    have hs1 := hs1 W3
    have hw2 := hw2 W3
    have hs2 := hs2 W3
    clear hset hg13 hbx3 hlt hnb hBB hlen hW3
    go_region_held3 (fun W => W.cell? ⟨w.heap.size, 0, none⟩ = some (.int .i64 hd.side) ∧ W.cell? ⟨w.heap.size, 1, none⟩ = some (.int .u32 hd.gen) ∧ W.cell? ⟨w.heap.size, 2, none⟩ = some (.int .u32 hd.size) ∧ W.cell? ⟨w.heap.size, 3, none⟩ = some (.int .u32 hd.sum)) (first | exact ⟨e0, e1, e2, e3⟩ | exact hkb _ h5w | exact hkb _ h6.wo | exact hkb _ h7.wo | exact hkb _ h8w | exact hkb _ h9.wo | exact hkb _ h10.wo) (first
      | (go_at_call 49; refine (hw1 _ h5b _ (hsr5 _ h5w)).mono ?_; clear hw1; rintro r w6 ⟨rfl, h6⟩)
      | (go_at_call 50; refine (hs1 _ h6).mono ?_; clear hs1; rintro r w7 ⟨rfl, h7⟩)
      | (go_at_call 92; refine (hpl _).mono ?_; rintro r w8 ⟨rfl, h8b⟩; have h8w := hwb _ _ h7.wo h8b)
      | (go_at_call 92; refine (hpl _).mono ?_; rintro r w5 ⟨rfl, h5⟩; have h5b : Below W3.heap.size W3 w5 := hb33.drew.trans h5; have h5w := hw0.below h5b (Nat.le_refl _))
      | (go_at_call 49; refine (hw2 _ h7 _ h8b _ (hsr6 _ h8w)).mono ?_; clear hw2; rintro r w9 ⟨rfl, h9⟩)
      | (go_at_call 50; refine (hs2 _ h9).mono ?_; clear hs2; rintro r w10 ⟨rfl, h10⟩))
    all_goals
      go_wp2
      go_meet
      case rel => exact ⟨rfl, Try.Chg.pre hbw3 h10⟩
  case rest =>
    obtain ⟨rfl, h8⟩ := hcut
    go_wp2
    go_ret
    exact ⟨rfl, h8⟩
end Go.Proofs
