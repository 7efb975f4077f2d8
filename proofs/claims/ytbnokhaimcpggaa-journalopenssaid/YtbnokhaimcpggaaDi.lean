/-
  Read, New, Fuse.
-/
import Derived.Test.YtbnokhaimcpggaaDh
import Derived.Laws.MakeOwn
namespace Go.Proofs
open Go.RowKit Go.Dk
theorem Dk.made {Z : Array Value} (N : Nat) (v : Value) (h0 : 0 < Z.size) (h : ∀ j, j < Z.size → Z[j]? = some v) : madeCells Z N = (List.replicate N v).toArray := by
  apply Array.ext_getElem?
  intro j
  unfold madeCells
  by_cases hj : j < N
  · have hm := h (j % Z.size) (Nat.mod_lt _ h0)
    have hm' : Z[j % Z.size]! = v := by simp [getElem!_def, hm]
    simp [hj, hm']
  · rw [Array.getElem?_eq_none (by simp; omega), Array.getElem?_eq_none (by simp; omega)]
theorem Try.info_u8 : (Try.prog.info? 5).map (fun i => (i.zero, i.size, i.bytes)) = some (some (.int .u8 0), 1, 1) := by kernel_rfl
theorem Try.info_int : (Try.prog.info? 3).map (fun i => (i.zero, i.size, i.bytes)) = some (some (.int .i64 0), 1, 8) := by kernel_rfl
theorem Try.info_block : (Try.prog.info? 68).map (fun i => (i.zero, i.size, i.bytes)) = some (some (.agg (Lib.byteCells (List.replicate 64 0)).toArray), 64, 64) := by kernel_rfl
theorem Dk.zeros (N : Nat) : List.replicate N (Value.int .u8 0) = Lib.byteCells (List.replicate N 0) := by simp [Lib.byteCells]
/-- 'make' of bytes. -/
theorem Try.run_make64 (w : World) : (Instr.makeSlice 22 (.int .i64 64) (.int .i64 64)).run Try.prog w = .ok (.slice (some ⟨w.heap.size, 0, none⟩) 64 64) (w.alloc (.cells (Lib.byteCells (List.replicate 64 0)).toArray 5)) := by
  obtain ⟨i0, hi0, hz0, hz1, hz2⟩ := info_parts Try.info_u8
  have := run_make (P := Try.prog) w 22 5 i0 _ Try.underlying22 hi0 hz0 .i64 .i64 64 64 (by omega) (by omega) (by rw [hz2]; omega) (by omega)
  rw [this, hz1]
  have e := Dk.made (Z := (Value.int .u8 0).cells) 64 (.int .u8 0) (by decide) (fun j hj => by
    have : j = 0 := by simp [Value.cells] at hj; omega
    subst this; rfl)
  rw [Dk.zeros] at e
  rw [← e]
  rfl
theorem Dk.wpList_make {P : Program} {ops : Array Oper} {rest : List Oper} {op : Oper} {a : Act} {w w' : World} {Q : Exit → Act → World → Prop} (hgd : op.guard = none) (t : TypeId) (y z : Operand) (ho : op.op = .makeSlice t y z) {u1 u2 v : Value} (hy : a.eval y = u1) (hz : a.eval z = u2)
    (hr : (Instr.makeSlice t u1 u2).run P w = .ok v w') (h : wpList P ops Q rest (a.put op.dst v) w') : wpList P ops Q (op :: rest) a w :=
  wpList_plain hgd fun _ hK => by
    unfold Oper.wp execOp
    simp only [ho, hy, hz, Sem.run_bind, Sem.run_pure, Result.andThen_ok, hr]
    exact hK _ _ h
theorem Try.Mem.lcell {w : World} {x l t : Nat} {V : Value} {s : DS} {T : List Nat} (h : Try.Mem w x l t V s T) {i : Nat} (hi : i < s.n) (j : Nat) (v : Value) (hj : (Lib.byteCells (blk s.L i))[j]? = some v) : w.cell? ⟨l, i * 64 + j, none⟩ = some v := by
  have hj64 := (List.getElem?_eq_some_iff.1 hj).1
  rw [Dk.byteCells_len, blk_length h.lL hi] at hj64
  rw [cell_of_row _ _ _ _ _ _ h.hl, List.getElem?_toArray]
  simp only [Lib.byteCells, List.getElem?_map] at hj ⊢
  rw [get_blk, if_pos hj64, show 64 * i + j = i * 64 + j by omega] at hj
  exact hj
theorem Dk.blk_view {n : Nat} (s : DS) (_hn : s.n = n) (hL : s.L.length = 64 * s.n) (hg : GoodW s.n s.W) {i : Nat} (hi : i < s.n) : blk s.view i = if lat s.W i = 0 then blk s.L i else (s.W.getD (lat s.W i - 1) (0, [])).2 := read_view hL hi s.W hg
set_option maxRecDepth 20000 in
set_option maxHeartbeats 1000000 in
theorem Try.read_ok {w : World} {x l t : Nat} {V : Value} {s : DS} {T : List Nat} (h : Try.Mem w x l t V s T) (hT : T = Dk.lats s.n s.W) (hd : s.dead = false) (i : Nat) (hi : i < s.n) :
    Calls Try.prog 32 #[.pointer (some ⟨x, 0, none⟩), .int .i64 i] w fun e w' => e = .returned (.tuple #[.slice (some ⟨w.heap.size, 0, none⟩) 64 64, .int .i64 0]) ∧ w'.heap[w.heap.size]? = some (.cells (Lib.byteCells (blk s.view i)).toArray 5 (0, 0)) ∧ Below w.heap.size w w' := by
  have c3 : w.cell? ⟨x, 3, none⟩ = some (.bool s.dead) := h.c0 3 _ rfl
  have c0 : w.cell? ⟨x, 0, none⟩ = some (.slice (some ⟨l, 0, none⟩) s.n s.n) := h.c0 0 _ rfl
  have c2 : w.cell? ⟨x, 2, none⟩ = some (.slice (some ⟨t, 0, none⟩) s.n s.ct) := h.c0 2 _ rfl
  have c1 : w.cell? ⟨x, 1, none⟩ = some V := h.c0 1 _ rfl
  rw [hd] at c3
  have hha := Try.has_any h i
  rw [show decide (0 ≤ (i : Int) ∧ (i : Int) < (s.n : Int)) = true by simp; omega] at hha
  obtain ⟨ct, -⟩ := h.tcell hi
  have hTi : T.getD i 0 = lat s.W i := by rw [hT]; simp [Dk.lats, hi]
  rw [hTi] at ct
  have q0 : (i : Int) < (s.n : Int) := by omega
  have hlt : lat s.W i ≤ s.W.length := lat_le _ _
  have hvw := Dk.blk_view s rfl h.lL h.good hi
  obtain ⟨W1, hW1⟩ : ∃ W1, W1 = w.alloc (.cells (Lib.byteCells (List.replicate 64 0)).toArray 5) := ⟨_, rfl⟩
  have hbel : Below w.heap.size w W1 := by rw [hW1]; exact (Below.refl w.heap.size w).alloc (Nat.le_refl _) _
  have hN : W1.heap[w.heap.size]? = some (.cells (Lib.byteCells (List.replicate 64 0)).toArray 5 (0, 0)) := by rw [hW1]; exact heap_alloc_new w _
  have hmk := Try.run_make64 w
  rw [← hW1] at hmk
  have hcopy : ∀ (m : List UInt8) (sb so : Nat), m.length = 64 → sb < w.heap.size → (∀ (j : Nat) (v : Value), (Lib.byteCells m)[j]? = some v → w.cell? ⟨sb, so + j, none⟩ = some v) → ∃ W2, (∀ ty, ∃ r, (Builtin.copy_ #[22, 22] ty #[.slice (some ⟨w.heap.size, 0, none⟩) 64 64, .slice (some ⟨sb, so, none⟩) 64 64]).run Try.prog W1 = .ok r W2) ∧ W2.heap[w.heap.size]? = some (.cells (Lib.byteCells m).toArray 5 (0, 0)) ∧ Below w.heap.size w W2 := fun m sb so hm hsb hc => by
    have hrun := fun ty => Try.copyB W1 ty w.heap.size 0 64 64 sb so 64 64 m (by rw [hm]; rfl)
        (fun j v hj => by rw [hbel.cell (p := ⟨sb, so + j, none⟩) hsb]; exact hc j v hj)
        (fun j hj => by
          rw [cell_of_row _ _ _ _ _ _ hN, List.getElem?_toArray, List.getElem?_eq_getElem (by rw [Dk.byteCells_len]; simp; omega)]; rfl)
        (fun j => frozen_of_row _ _ _ _ _ hN)
    refine ⟨_, fun ty => ⟨_, hrun ty⟩, ?_, ?_⟩
    · have h1 := Dk.heap_setCells w.heap.size 5 (Lib.byteCells m) 0 _ _ hN (by rw [Dk.byteCells_len, Dk.byteCells_len]; simp; omega)
      rw [h1]
      congr 3
      simp only [Dk.splice, List.take_zero, List.nil_append, Nat.zero_add, Dk.byteCells_len]
      rw [List.drop_of_length_le (by rw [Dk.byteCells_len]; simp; omega), List.append_nil]
    · obtain ⟨h1, h2, h3, h4, h5⟩ := Dk.setCells_same w.heap.size (Lib.byteCells m) 0 W1
      exact ⟨h1.trans hbel.os, h2.trans hbel.tape, h3.trans hbel.output, by rw [h4]; exact hbel.size, fun k hk => (h5 k (by omega)).trans (hbel.block k hk)⟩
  by_cases h0 : lat s.W i = 0
  · rw [if_pos h0] at hvw
    obtain ⟨W2, hcp, hN2, hbel2⟩ := hcopy (blk s.L i) l (i * 64) (blk_length h.lL hi) (Dk.block_lt h.hl) (fun j v hj => h.lcell hi j v hj)
    obtain ⟨r, hcp1⟩ := hcp 3
    rw [h0] at ct
    rw [← hvw] at hN2
    have HN2 : Hid _ := hN2
    clear h hd hvw hcopy hTi h0 hcp hN hW1 hN2 hbel hT hlt
    go_enter Try.func32, Try.ntmps32
    go_upto_region 9 with (go_at_call 20; refine hha.mono ?_; clear hha; rintro e w1 ⟨rfl, rfl⟩)
    refine wp_region_lit ?_
    refine Dk.wpList_make rfl 22 (.const (.int .i64 64)) (.const (.int .i64 64)) rfl rfl rfl hmk ?_
    simp only [Act.put, List.setIfInBounds_toArray, List.set_cons_zero, List.set_cons_succ]
    go_wp2_with (at_builtin; refine wpList_copy_runI _ rfl _ _ 22 22 rfl _ _ rfl rfl hcp1 ?_)
    go_ret2
    exact ⟨rfl, HN2.out, hbel2⟩
  · rw [if_neg h0] at hvw
    obtain ⟨m, hm⟩ : ∃ m, lat s.W i = m + 1 := ⟨lat s.W i - 1, by omega⟩
    rw [hm] at hlt ct hvw
    obtain ⟨p, hp⟩ : ∃ p, s.W[m]? = some p := ⟨_, List.getElem?_eq_getElem (by omega)⟩
    have hpp : s.W.getD (m + 1 - 1) (0, []) = p := by simp [List.getD, hp]
    rw [hpp] at hvw
    obtain ⟨g, cap, e, -, hgw⟩ := h.hv.form (by omega)
    subst e
    obtain ⟨W2, hcp, hN2, hbel2⟩ := hcopy p.2 g (m * 65 + 1) (h.good p (List.mem_of_getElem? hp)).2 hgw (fun j v hj => by
      have hj64 := (List.getElem?_eq_some_iff.1 hj).1
      rw [Dk.byteCells_len, (h.good p (List.mem_of_getElem? hp)).2] at hj64
      rw [show m * 65 + 1 + j = m * 65 + (j + 1) by omega, Dk.wcell h.hv h.good hp (j + 1) (by omega)]
      simpa [Dk.wrC] using hj)
    obtain ⟨r, hcp1⟩ := hcp 3
    rw [← hvw] at hN2
    have HN2 : Hid _ := hN2
    have ct' : w.cell? ⟨t, i, none⟩ = some (.int .i64 ((m : Int) + 1)) := ct
    have q1 : (m : Int) < (s.W.length : Int) := by omega
    have q2 : (0 : Int) < (m : Int) + 1 := by omega
    have hw1 := h.w1
    clear h hd hvw hcopy hTi h0 hcp hN hW1 hN2 hbel hT hp hpp ct hm
    go_enter Try.func32, Try.ntmps32
    go_upto_region 9 with (go_at_call 20; refine hha.mono ?_; clear hha; rintro e w1 ⟨rfl, rfl⟩)
    refine wp_region_lit ?_
    refine Dk.wpList_make rfl 22 (.const (.int .i64 64)) (.const (.int .i64 64)) rfl rfl rfl hmk ?_
    simp only [Act.put, List.setIfInBounds_toArray, List.set_cons_zero, List.set_cons_succ]
    go_wp2_with (at_builtin; refine wpList_copy_runI _ rfl _ _ 22 22 rfl _ _ rfl rfl hcp1 ?_)
    go_ret2
    exact ⟨rfl, HN2.out, hbel2⟩
theorem Try.read_dead {w : World} {x l t : Nat} {V : Value} {s : DS} {T : List Nat} (h : Try.Mem w x l t V s T) (hd : s.dead = true) (i : Int) :
    Calls Try.prog 32 #[.pointer (some ⟨x, 0, none⟩), .int .i64 i] w fun e w' => e = .returned (.tuple #[.slice none 0 0, .int .i64 41]) ∧ w' = w := by
  have c3 : w.cell? ⟨x, 3, none⟩ = some (.bool s.dead) := h.c0 3 _ rfl
  rw [hd] at c3
  clear h
  go_enter Try.func32, Try.ntmps32
  go_wp2
  go_ret2
  exact ⟨rfl, rfl⟩
set_option maxHeartbeats 1000000 in
theorem Try.fuse_ok {w : World} {x l t : Nat} {V : Value} {s : DS} {T : List Nat} (h : Try.Mem w x l t V s T) (hd : s.dead = false) (n k c : Int) (hn : 0 ≤ n) :
    Calls Try.prog 38 #[.pointer (some ⟨x, 0, none⟩), .int .i64 n, .agg #[.int .i64 k, .int .i64 c]] w fun e w' => e = .returned (.int .i64 0) ∧ Try.Mem w' x l t V { s with fset := true, fl := n, fk := k, ft := c } T ∧ Dk.Wo (fun k => k = x) w w' := by
  have c3 : w.cell? ⟨x, 3, none⟩ = some (.bool s.dead) := h.c0 3 _ rfl
  rw [hd] at c3
  have hxw : x < w.heap.size := Dk.block_lt h.hx
  have c4 : w.cell? ⟨x, 4, none⟩ = some (.bool s.fset) := h.c0 4 _ rfl
  have c5 : w.cell? ⟨x, 5, none⟩ = some (.int .i64 s.fl) := h.c0 5 _ rfl
  have c6 : w.cell? ⟨x, 6, none⟩ = some (.int .i64 s.fk) := h.c0 6 _ rfl
  have c7 : w.cell? ⟨x, 7, none⟩ = some (.int .i64 s.ft) := h.c0 7 _ rfl
  have f4 := h.f0 4
  have f5 := h.f0 5
  have f6 := h.f0 6
  have f7 := h.f0 7
  have q0 : ¬ n < 0 := by omega
  have HH : Hid (Try.Mem w x l t V s T) := h
  clear h hd
  go_enter Try.func38, Try.ntmps38
  go_wp2
  go_ret
  have h1 := ((((HH.out.setF 4 (.bool true) (s' := { s with fset := true }) rfl rfl rfl rfl).setF 5 (.int .i64 n) (s' := { s with fset := true, fl := n }) rfl rfl rfl rfl).setF 6 (.int .i64 k) (s' := { s with fset := true, fl := n, fk := k }) rfl rfl rfl rfl).setF 7 (.int .i64 c) (s' := { s with fset := true, fl := n, fk := k, ft := c }) rfl rfl rfl rfl)
  exact ⟨rfl, h1.keep fun j hj => Below.heap_alloc _ _ j (h1.foot_lt j hj), ((((Dk.Wo.refl (fun k => k = x) w).setCell x 4 _ (.inl rfl)).setCell x 5 _ (.inl rfl)).setCell x 6 _ (.inl rfl)).setCell x 7 _ (.inl rfl) |>.alloc _⟩
theorem Dk.wp_make {P : Program} {op : Oper} {a : Act} {w w' : World} {K : Act → World → Prop} {Q : Exit → Act → World → Prop} (t : TypeId) (y z : Operand) (ho : op.op = .makeSlice t y z) {u1 u2 v : Value} (hy : a.eval y = u1) (hz : a.eval z = u2)
    (hr : (Instr.makeSlice t u1 u2).run P w = .ok v w') (h : K (a.put op.dst v) w') : op.wp P a w K Q := by
  unfold Oper.wp execOp
  simp only [ho, hy, hz, Sem.run_bind, Sem.run_pure, Result.andThen_ok, hr]
  exact h
theorem Try.run_makeL (n : Nat) (hn : n ≤ 4096) (w : World) : (Instr.makeSlice 59 (.int .i64 n) (.int .i64 n)).run Try.prog w = .ok (.slice (some ⟨w.heap.size, 0, none⟩) n n) (w.alloc (.cells (Lib.byteCells (List.replicate (64 * n) 0)).toArray 68)) := by
  obtain ⟨i0, hi0, hz0, hz1, hz2⟩ := info_parts Try.info_block
  have := run_make (P := Try.prog) w 59 68 i0 _ Try.underlying59 hi0 hz0 .i64 .i64 n n (by omega) (by omega) (by rw [hz2]; omega) (by omega)
  rw [this, hz1]
  have e := Dk.made (Z := (Value.agg (Lib.byteCells (List.replicate 64 0)).toArray).cells) (64 * n) (.int .u8 0) (by decide) (fun j hj => by
    have hj' : j < 64 := hj
    show ((Lib.byteCells (List.replicate 64 0)).toArray)[j]? = _
    rw [List.getElem?_toArray, ← Dk.zeros, List.getElem?_replicate, if_pos hj'])
  rw [Dk.zeros] at e
  rw [← e, show ((n : Int)).toNat = n from rfl, Nat.mul_comm n 64]
theorem Try.run_makeT (n : Nat) (hn : n ≤ 4096) (w : World) : (Instr.makeSlice 61 (.int .i64 n) (.int .i64 n)).run Try.prog w = .ok (.slice (some ⟨w.heap.size, 0, none⟩) n n) (w.alloc (.cells (Dk.ints (Dk.lats n [])).toArray 3)) := by
  obtain ⟨i0, hi0, hz0, hz1, hz2⟩ := info_parts Try.info_int
  have := run_make (P := Try.prog) w 61 3 i0 _ Try.underlying61 hi0 hz0 .i64 .i64 n n (by omega) (by omega) (by rw [hz2]; omega) (by omega)
  rw [this, hz1]
  have e := Dk.made (Z := (Value.int .i64 0).cells) n (.int .i64 0) (by decide) (fun j hj => by
    have : j = 0 := by simp [Value.cells] at hj; omega
    subst this; rfl)
  have e2 : List.replicate n (Value.int .i64 0) = Dk.ints (Dk.lats n []) := by
    apply List.ext_getElem (by simp [Dk.ints, Dk.lats])
    intro i h1 h2
    simp [Dk.ints, Dk.lats, lat]
  rw [e2] at e
  rw [← e, show ((n : Int)).toNat = n from rfl, Nat.mul_one]
/-- A new disk. -/
def Dk.new (n : Nat) : DS := ⟨n, List.replicate (64 * n) 0, [], false, false, 0, 0, 0, 0, 0, 0, n⟩
theorem Try.mem_new {w W : World} {l t : Nat} (n : Nat) (h0 : 0 < n) (hn : n ≤ 4096) (hl : W.heap[l]? = some (.cells (Lib.byteCells (List.replicate (64 * n) 0)).toArray 68 (0, 0))) (ht : W.heap[t]? = some (.cells (Dk.ints (Dk.lats n [])).toArray 3 (0, 0))) (hlt : l ≠ t) (hb : Below w.heap.size w W) (hsl : w.heap.size ≤ l) (hst : w.heap.size ≤ t) :
    Try.Mem (W.alloc (.cells (Dk.dsk l t (.slice none 0 0) (Dk.new n)).toArray 65)) W.heap.size l t (.slice none 0 0) (Dk.new n) (Dk.lats n []) ∧ Below w.heap.size w (W.alloc (.cells (Dk.dsk l t (.slice none 0 0) (Dk.new n)).toArray 65)) ∧ w.heap.size ≤ W.heap.size ∧ w.heap.size ≤ l ∧ w.heap.size ≤ t := by
  have h1 := Dk.block_lt hl
  have h2 := Dk.block_lt ht
  refine ⟨⟨heap_alloc_new W _, (Below.heap_alloc W _ l h1).trans hl, ⟨[], by rw [List.append_nil]; exact (Below.heap_alloc W _ t h2).trans ht⟩, World.ownsRow_nil _ _ _ _, by omega, by omega, hlt, fun k e => (by cases e), by simp [Dk.new], by simp [Dk.lats, Dk.new], GoodW.nil _, h0, hn, by simp [Dk.new], Nat.le_refl _⟩, hb.alloc hb.size _, hb.size, hsl, hst⟩
theorem Try.makes1 (w : World) (n : Nat) (hn : n ≤ 4096) : ∃ W1 W : World, (Instr.makeSlice 59 (.int .i64 n) (.int .i64 n)).run Try.prog w.drew = .ok (.slice (some ⟨w.heap.size, 0, none⟩) n n) W1 ∧ (Instr.makeSlice 61 (.int .i64 n) (.int .i64 n)).run Try.prog W1 = .ok (.slice (some ⟨w.heap.size + 1, 0, none⟩) n n) W ∧
    W.heap[w.heap.size]? = some (.cells (Lib.byteCells (List.replicate (64 * n) 0)).toArray 68 (0, 0)) ∧ W.heap[w.heap.size + 1]? = some (.cells (Dk.ints (Dk.lats n [])).toArray 3 (0, 0)) ∧ Below w.heap.size w W := by
  have hsz : (w.drew.alloc (.cells (Lib.byteCells (List.replicate (64 * n) 0)).toArray 68)).heap.size = w.heap.size + 1 := by simp
  refine ⟨_, (w.drew.alloc (.cells (Lib.byteCells (List.replicate (64 * n) 0)).toArray 68)).alloc (.cells (Dk.ints (Dk.lats n [])).toArray 3), Try.run_makeL n hn w.drew, ?_, ?_, ?_, ?_⟩
  · have := Try.run_makeT n hn (w.drew.alloc (.cells (Lib.byteCells (List.replicate (64 * n) 0)).toArray 68))
    rw [hsz] at this
    exact this
  · exact (Below.heap_alloc _ _ _ (by simp)).trans (heap_alloc_new w.drew _)
  · have := heap_alloc_new (w.drew.alloc (.cells (Lib.byteCells (List.replicate (64 * n) 0)).toArray 68)) (.cells (Dk.ints (Dk.lats n [])).toArray 3)
    rw [hsz] at this
    exact this
  · exact (((Below.refl w.heap.size w).drew).alloc (Nat.le_refl _) _).alloc (by simp) _
theorem Try.makes2 (w : World) (n : Nat) (hn : n ≤ 4096) : ∃ W1 W : World, (Instr.makeSlice 61 (.int .i64 n) (.int .i64 n)).run Try.prog w.drew = .ok (.slice (some ⟨w.heap.size, 0, none⟩) n n) W1 ∧ (Instr.makeSlice 59 (.int .i64 n) (.int .i64 n)).run Try.prog W1 = .ok (.slice (some ⟨w.heap.size + 1, 0, none⟩) n n) W ∧
    W.heap[w.heap.size]? = some (.cells (Dk.ints (Dk.lats n [])).toArray 3 (0, 0)) ∧ W.heap[w.heap.size + 1]? = some (.cells (Lib.byteCells (List.replicate (64 * n) 0)).toArray 68 (0, 0)) ∧ Below w.heap.size w W := by
  have hsz : (w.drew.alloc (.cells (Dk.ints (Dk.lats n [])).toArray 3)).heap.size = w.heap.size + 1 := by simp
  refine ⟨_, (w.drew.alloc (.cells (Dk.ints (Dk.lats n [])).toArray 3)).alloc (.cells (Lib.byteCells (List.replicate (64 * n) 0)).toArray 68), Try.run_makeT n hn w.drew, ?_, ?_, ?_, ?_⟩
  · have := Try.run_makeL n hn (w.drew.alloc (.cells (Dk.ints (Dk.lats n [])).toArray 3))
    rw [hsz] at this
    exact this
  · exact (Below.heap_alloc _ _ _ (by simp)).trans (heap_alloc_new w.drew _)
  · have := heap_alloc_new (w.drew.alloc (.cells (Dk.ints (Dk.lats n [])).toArray 3)) (.cells (Lib.byteCells (List.replicate (64 * n) 0)).toArray 68)
    rw [hsz] at this
    exact this
  · exact (((Below.refl w.heap.size w).drew).alloc (Nat.le_refl _) _).alloc (by simp) _
theorem Try.run_buildD (n l t : Nat) (W : World) : (Instr.build 65 #[(0, .slice (some ⟨l, 0, none⟩) n n), (2, .slice (some ⟨t, 0, none⟩) n n)]).run Try.prog W = .ok (.agg (Dk.dsk l t (.slice none 0 0) (Dk.new n)).toArray) W := by kernel_rfl
theorem Dk.wp_build2 {P : Program} {op : Oper} {a : Act} {w : World} {K : Act → World → Prop} {Q : Exit → Act → World → Prop} (t : TypeId) (y z : Operand) (ho : op.op = .build t #[(0, y), (2, z)]) {u1 u2 v : Value} (hy : a.eval y = u1) (hz : a.eval z = u2)
    (hr : (Instr.build t #[(0, u1), (2, u2)]).run P w = .ok v w) (h : K (a.put op.dst v) w) : op.wp P a w K Q := by
  unfold Oper.wp execOp
  simp only [ho, List.map_toArray, List.map_cons, List.map_nil, hy, hz, Sem.run_bind, Sem.run_pure, Result.andThen_ok, hr]
  exact h
theorem Dk.wp_box {P : Program} {op : Oper} {a : Act} {w w' : World} {K : Act → World → Prop} {Q : Exit → Act → World → Prop} (t : TypeId) (y : Operand) (ho : op.op = .box t y) {u v : Value} (hy : a.eval y = u)
    (hr : (Instr.box t u).run P w = .ok v w') (h : K (a.put op.dst v) w') : op.wp P a w K Q := by
  unfold Oper.wp execOp
  simp only [ho, hy, Sem.run_bind, Sem.run_pure, Result.andThen_ok, hr]
  exact h
def Try.NewOk (w : World) (n : Nat) (e : Ending) (w' : World) : Prop :=
  ∃ x l t, e = .returned (.tuple #[.pointer (some ⟨x, 0, none⟩), .int .i64 0]) ∧ Try.Mem w' x l t (.slice none 0 0) (Dk.new n) (Dk.lats n []) ∧ Below w.heap.size w w' ∧ w.heap.size ≤ x ∧ w.heap.size ≤ l ∧ w.heap.size ≤ t
set_option maxRecDepth 20000 in
set_option maxHeartbeats 1000000 in
theorem Try.new_ok (w : World) (n : Nat) (h0 : 8 ≤ n) (hn : n ≤ 4096) :
    Calls Try.prog 14 #[.int .i64 n] w fun e w' => Try.NewOk w n e w' := by
  have q0 : ¬ (n : Int) < 8 := by omega
  have q1 : decide ((4096 : Int) < (n : Int)) = false := by simp; omega
  have hmA := Try.makes1 w n hn
  have hmB := Try.makes2 w n hn
  go_enter Try.func14, Try.ntmps14
  go_upto_region 3 with (fail)
  refine wp_region_held_drew (S := fun _ => True) (by kernel_rfl) trivial ?_
  intro _
  refine wpAnyH_take (i := 0) (v := .int .i64 n) rfl (by kernel_rfl) (by kernel_rfl) (by kernel_rfl) (fun _ _ _ h => h) (Or.inl ⟨by rfl, fun w _ => by rfl⟩) trivial ?_
  simp only [Act.put, List.getElem_toArray, List.getElem_cons_zero, List.setIfInBounds_toArray, List.set_cons_zero, List.set_cons_succ]
  refine wpAnyH_take (i := 2) (v := .int .i64 n) rfl (by kernel_rfl) (by kernel_rfl) (by kernel_rfl) (fun _ _ _ h => h) (Or.inl ⟨by rfl, fun w _ => by rfl⟩) trivial ?_
  simp only [Act.put, List.getElem_toArray, List.getElem_cons_zero, List.getElem_cons_succ, List.setIfInBounds_toArray, List.set_cons_zero, List.set_cons_succ]
  refine wpAnyH_ready (rs := [1, 3]) (by kernel_rfl) (by simp) ?_
  refine AllReadyH.cons rfl (fun K hK => ?_) (AllReadyH.cons rfl (fun K hK => ?_) AllReadyH.nil)
  case' refine_1 =>
    obtain ⟨W1, W, hr1, hr2, hl, ht, hb⟩ := hmA
    rw [if_pos (by rfl)]
    refine Dk.wp_make 59 (.tmp 10) (.tmp 10) rfl rfl rfl hr1 ?_
    refine hK.out _ _ trivial (fun _ => ?_)
    clear hK K
    simp only [Act.put, List.getElem_toArray, List.getElem_cons_zero, List.getElem_cons_succ, List.setIfInBounds_toArray, List.set_cons_zero, List.set_cons_succ]
    refine wpAnyH_ready (rs := [3]) (by kernel_rfl) (by simp) ?_
    refine AllReadyH.cons rfl (fun K hK => ?_) AllReadyH.nil
    rw [if_pos (by rfl)]
    refine Dk.wp_make 61 (.tmp 12) (.tmp 12) rfl rfl rfl hr2 ?_
    refine hK.out _ _ trivial (fun _ => ?_)
    clear hK K
    simp only [Act.put, List.getElem_toArray, List.getElem_cons_zero, List.getElem_cons_succ, List.setIfInBounds_toArray, List.set_cons_zero, List.set_cons_succ]
    refine wpAnyH_ready (rs := [4]) (by kernel_rfl) (by simp) ?_
    refine AllReadyH.cons rfl (fun K hK => ?_) AllReadyH.nil
    rw [if_pos (by rfl)]
    refine Dk.wp_build2 65 (.tmp 11) (.tmp 13) rfl rfl rfl (Try.run_buildD n w.heap.size (w.heap.size + 1) W) ?_
    refine hK.out _ _ trivial (fun _ => ?_)
    clear hK K
    simp only [Act.put, List.getElem_toArray, List.getElem_cons_zero, List.getElem_cons_succ, List.setIfInBounds_toArray, List.set_cons_zero, List.set_cons_succ]
    refine wpAnyH_ready (rs := [5]) (by kernel_rfl) (by simp) ?_
    refine AllReadyH.cons rfl (fun K hK => ?_) AllReadyH.nil
    rw [if_pos (by rfl)]
    refine Dk.wp_box 65 (.tmp 14) rfl rfl (v := .pointer (some ⟨W.heap.size, 0, none⟩)) (w' := W.alloc (.cells (Dk.dsk w.heap.size (w.heap.size + 1) (.slice none 0 0) (Dk.new n)).toArray 65)) rfl ?_
    refine hK.out _ _ trivial (fun _ => ?_)
    clear hK K
    simp only [Act.put, List.getElem_toArray, List.getElem_cons_zero, List.getElem_cons_succ, List.setIfInBounds_toArray, List.set_cons_zero, List.set_cons_succ]
    refine wpAnyH_take (i := 6) (v := .pointer (some ⟨W.heap.size, 0, none⟩)) rfl (by kernel_rfl) (by kernel_rfl) (by kernel_rfl) (fun _ _ _ h => h) (Or.inl ⟨by rfl, fun w _ => by kernel_rfl⟩) trivial ?_
    simp only [Act.put, List.getElem_toArray, List.getElem_cons_zero, List.getElem_cons_succ, List.setIfInBounds_toArray, List.set_cons_zero, List.set_cons_succ]
    refine wpAnyH_take (i := 7) (v := .int .i64 0) rfl (by kernel_rfl) (by kernel_rfl) (by kernel_rfl) (fun _ _ _ h => h) (Or.inl ⟨by rfl, fun w _ => by kernel_rfl⟩) trivial ?_
    simp only [Act.put, List.getElem_toArray, List.getElem_cons_zero, List.getElem_cons_succ, List.setIfInBounds_toArray, List.set_cons_zero, List.set_cons_succ]
    refine wpAnyH_done (by kernel_rfl) ?_ _
    go_wp2
    go_ret2
    obtain ⟨r1, r2, r3, r4, r5⟩ := Try.mem_new n (by omega) hn hl ht (by omega) hb (by omega) (by omega)
    exact ⟨_, _, _, rfl, r1, r2, r3, r4, r5⟩
  case' refine_2 =>
    obtain ⟨W1, W, hr1, hr2, hl, ht, hb⟩ := hmB
    rw [if_pos (by rfl)]
    refine Dk.wp_make 61 (.tmp 12) (.tmp 12) rfl rfl rfl hr1 ?_
    refine hK.out _ _ trivial (fun _ => ?_)
    clear hK K
    simp only [Act.put, List.getElem_toArray, List.getElem_cons_zero, List.getElem_cons_succ, List.setIfInBounds_toArray, List.set_cons_zero, List.set_cons_succ]
    refine wpAnyH_ready (rs := [1]) (by kernel_rfl) (by simp) ?_
    refine AllReadyH.cons rfl (fun K hK => ?_) AllReadyH.nil
    rw [if_pos (by rfl)]
    refine Dk.wp_make 59 (.tmp 10) (.tmp 10) rfl rfl rfl hr2 ?_
    refine hK.out _ _ trivial (fun _ => ?_)
    clear hK K
    simp only [Act.put, List.getElem_toArray, List.getElem_cons_zero, List.getElem_cons_succ, List.setIfInBounds_toArray, List.set_cons_zero, List.set_cons_succ]
    refine wpAnyH_ready (rs := [4]) (by kernel_rfl) (by simp) ?_
    refine AllReadyH.cons rfl (fun K hK => ?_) AllReadyH.nil
    rw [if_pos (by rfl)]
    refine Dk.wp_build2 65 (.tmp 11) (.tmp 13) rfl rfl rfl (Try.run_buildD n (w.heap.size + 1) w.heap.size W) ?_
    refine hK.out _ _ trivial (fun _ => ?_)
    clear hK K
    simp only [Act.put, List.getElem_toArray, List.getElem_cons_zero, List.getElem_cons_succ, List.setIfInBounds_toArray, List.set_cons_zero, List.set_cons_succ]
    refine wpAnyH_ready (rs := [5]) (by kernel_rfl) (by simp) ?_
    refine AllReadyH.cons rfl (fun K hK => ?_) AllReadyH.nil
    rw [if_pos (by rfl)]
    refine Dk.wp_box 65 (.tmp 14) rfl rfl (v := .pointer (some ⟨W.heap.size, 0, none⟩)) (w' := W.alloc (.cells (Dk.dsk (w.heap.size + 1) w.heap.size (.slice none 0 0) (Dk.new n)).toArray 65)) rfl ?_
    refine hK.out _ _ trivial (fun _ => ?_)
    clear hK K
    simp only [Act.put, List.getElem_toArray, List.getElem_cons_zero, List.getElem_cons_succ, List.setIfInBounds_toArray, List.set_cons_zero, List.set_cons_succ]
    refine wpAnyH_take (i := 6) (v := .pointer (some ⟨W.heap.size, 0, none⟩)) rfl (by kernel_rfl) (by kernel_rfl) (by kernel_rfl) (fun _ _ _ h => h) (Or.inl ⟨by rfl, fun w _ => by kernel_rfl⟩) trivial ?_
    simp only [Act.put, List.getElem_toArray, List.getElem_cons_zero, List.getElem_cons_succ, List.setIfInBounds_toArray, List.set_cons_zero, List.set_cons_succ]
    refine wpAnyH_take (i := 7) (v := .int .i64 0) rfl (by kernel_rfl) (by kernel_rfl) (by kernel_rfl) (fun _ _ _ h => h) (Or.inl ⟨by rfl, fun w _ => by kernel_rfl⟩) trivial ?_
    simp only [Act.put, List.getElem_toArray, List.getElem_cons_zero, List.getElem_cons_succ, List.setIfInBounds_toArray, List.set_cons_zero, List.set_cons_succ]
    refine wpAnyH_done (by kernel_rfl) ?_ _
    go_wp2
    go_ret2
    obtain ⟨r1, r2, r3, r4, r5⟩ := Try.mem_new n (by omega) hn ht hl (by omega) hb (by omega) (by omega)
    exact ⟨_, _, _, rfl, r1, r2, r3, r4, r5⟩
end Go.Proofs
