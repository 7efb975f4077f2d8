/-
  Write.
-/
import Derived.Test.YtbnokhaimcpggaaDg
import Derived.Deep.WholeRow
import Derived.Deep.RegionHeldLaw
import Derived.Deep.DeepCutAuto
namespace Go.Proofs
open Go.RowKit Go.Dk
/-- Bytes that are handed in: a slice that holds them. -/
structure Dk.Src (w : World) (v : Value) (b : List UInt8) : Prop where
  ex : ∃ ad cap, v = .slice ad b.length cap ∧ (b = [] ∨ ∃ sb so, ad = some ⟨sb, so, none⟩ ∧ sb < w.heap.size ∧ ∀ (j : Nat) (u : Value), (Lib.byteCells b)[j]? = some u → w.cell? ⟨sb, so + j, none⟩ = some u)
section
variable {P : Program}
theorem Dk.wpList_build {ops : Array Oper} {rest : List Oper} {op : Oper} {a : Act} {w : World} {Q : Exit → Act → World → Prop} (hgd : op.guard = none) (t : TypeId) (y : Operand) (ho : op.op = .build t #[(0, y)]) {u v : Value} (hy : a.eval y = u)
    (hr : (Instr.build t #[(0, u)]).run P w = .ok v w) (h : wpList P ops Q rest (a.put op.dst v) w) : wpList P ops Q (op :: rest) a w :=
  wpList_plain hgd fun _ hK => by
    unfold Oper.wp execOp
    simp only [ho, List.map_toArray, List.map_cons, List.map_nil, hy, Sem.run_bind, Sem.run_pure, Result.andThen_ok, hr]
    exact hK _ _ h
theorem Dk.wpList_alloc {ops : Array Oper} {rest : List Oper} {op : Oper} {a : Act} {w w' : World} {Q : Exit → Act → World → Prop} (hgd : op.guard = none) (t : TypeId) (ho : op.op = .alloc t) {v : Value}
    (hr : (Instr.alloc t true (.tuple #[])).run P w = .ok v w') (h : wpList P ops Q rest (a.put op.dst v) w') : wpList P ops Q (op :: rest) a w :=
  wpList_plain hgd fun _ hK => by
    unfold Oper.wp execOp
    simp only [ho, Sem.run_bind, Sem.run_pure, Result.andThen_ok, hr]
    exact hK _ _ h
theorem Dk.wpList_store {ops : Array Oper} {rest : List Oper} {op : Oper} {a : Act} {w w' : World} {Q : Exit → Act → World → Prop} (hgd : op.guard = none) (t : TypeId) (y z : Operand) (ho : op.op = .store t y z) {u v : Value} (hy : a.eval y = u) (hz : a.eval z = v)
    (hr : (Instr.storeAt t u v).run P w = .ok () w') (h : wpList P ops Q rest (a.put op.dst undef) w') : wpList P ops Q (op :: rest) a w :=
  wpList_plain hgd fun _ hK => by
    unfold Oper.wp execOp
    simp only [ho, hy, hz, Sem.run_bind, Sem.run_pure, Result.andThen_ok, hr]
    exact hK _ _ h
end
theorem Dk.fold_get (l : List Value) : ∀ (k : Nat) (cs : Array Value) (j : Nat), k + l.length ≤ cs.size →
    ((l.zipIdx k).foldl (fun (cs : Array Value) (p : Value × Nat) => cs.setIfInBounds (0 + p.2) p.1) cs)[j]? = if k ≤ j ∧ j < k + l.length then l[j - k]? else cs[j]? := by
  induction l with
  | nil => intro k cs j _; rw [if_neg (by simp)]; rfl
  | cons v r ih =>
    intro k cs j h
    simp only [List.length_cons] at h
    simp only [List.zipIdx_cons, List.foldl_cons, List.length_cons]
    rw [ih (k + 1) _ j (by simp; omega)]
    by_cases h1 : k + 1 ≤ j ∧ j < k + 1 + r.length
    · rw [if_pos h1, if_pos (by omega), show j - k = j - (k + 1) + 1 by omega, List.getElem?_cons_succ]
    · rw [if_neg h1, Array.getElem?_setIfInBounds]
      by_cases h2 : j = k
      · subst h2
        rw [if_pos (by omega), if_pos (by omega), if_pos (by omega)]; simp
      · rw [if_neg (by omega), if_neg (by omega)]
theorem Dk.fill_all {f : Nat → Option (Nat × Nat)} {n : Nat} (hf : f 0 = some (0, n)) (cells C : Array Value) (h : C.size = n) (hc : cells.size = n) : Instr.fill f cells [(0, .agg C)] = some C := by
  subst h
  simp only [Instr.fill, hf, Value.cells, Nat.zero_add, hc]
  rw [if_neg (by simp)]
  congr 1
  apply Array.ext_getElem?
  intro j
  have := Dk.fold_get C.toList 0 cells j (by simp [hc])
  simp only [Nat.zero_add, Array.length_toList, Nat.zero_le, true_and, Nat.sub_zero] at this
  rw [← Array.foldl_toList, Array.toList_zipIdx]
  rw [this]
  split
  · simp
  · rw [Array.getElem?_eq_none (by omega), Array.getElem?_eq_none (by omega)]
theorem Dk.wp_loadAt {P : Program} {op : Oper} {a : Act} {w : World} {K : Act → World → Prop} {Q : Exit → Act → World → Prop} (t : TypeId) (y : Operand) (ho : op.op = .load t y) {u v : Value} (hy : a.eval y = u)
    (hr : (Instr.loadAt t u).run P w = .ok v w) (h : K (a.put op.dst v) w) : op.wp P a w K Q := by
  unfold Oper.wp execOp
  simp only [ho, hy, Sem.run_bind, Sem.run_pure, Result.andThen_ok, hr]
  exact h
theorem Dk.wp_storeAt {P : Program} {op : Oper} {a : Act} {w w' : World} {K : Act → World → Prop} {Q : Exit → Act → World → Prop} (t : TypeId) (y z : Operand) (ho : op.op = .store t y z) {u v : Value} (hy : a.eval y = u) (hz : a.eval z = v)
    (hr : (Instr.storeAt t u v).run P w = .ok () w') (h : K (a.put op.dst undef) w') : op.wp P a w K Q := by
  unfold Oper.wp execOp
  simp only [ho, hy, hz, Sem.run_bind, Sem.run_pure, Result.andThen_ok, hr]
  exact h
theorem Dk.wp_buildSlice {P : Program} {op : Oper} {a : Act} {w w' : World} {K : Act → World → Prop} {Q : Exit → Act → World → Prop} (t : TypeId) (y : Operand) (ho : op.op = .buildSlice t 1 #[(0, y)]) {u v : Value} (hy : a.eval y = u)
    (hr : (Instr.buildSlice t 1 #[(0, u)]).run P w = .ok v w') (h : K (a.put op.dst v) w') : op.wp P a w K Q := by
  unfold Oper.wp execOp
  simp only [ho, List.map_toArray, List.map_cons, List.map_nil, hy, Sem.run_bind, Sem.run_pure, Result.andThen_ok, hr]
  exact h
def Dk.zero65 (i : Nat) : List Value := Dk.wrC (i, List.replicate 64 0)
theorem Try.run_build (i : Nat) (w : World) : (Instr.build 70 #[(0, .int .i64 i)]).run Try.prog w = .ok (.agg (Dk.zero65 i).toArray) w := by kernel_rfl
theorem Try.run_alloc (w : World) : (Instr.alloc 70 true (.tuple #[])).run Try.prog w = .ok (.pointer (some ⟨w.heap.size, 0, none⟩)) (w.alloc (.cells (Dk.zero65 0).toArray 70)) := by kernel_rfl
theorem Try.zero_write : (Try.prog.info? 70).map (fun i => (i.zero, i.size)) = some (some (.agg (Dk.zero65 0).toArray), 65) := by kernel_rfl
theorem Try.run_buildSlice (C : Array Value) (hC : C.size = 65) (w : World) : (Instr.buildSlice 60 1 #[(0, .agg C)]).run Try.prog w = .ok (.slice (some ⟨w.heap.size, 0, none⟩) 1 1) (w.alloc (.cells C 70)) := by
  obtain ⟨hz, hs⟩ := zero_of_info Try.zero_write
  cases hq : Try.prog.info? 70 with
  | none => rw [hq] at hs; cases hs
  | some i =>
    have hi : i.size = 65 := by simpa [hq] using hs
    have hfl : ∀ cells : Array Value, cells.size = 65 → Instr.fill (fun i => some (i * 65, 65)) cells [(0, .agg C)] = some C := fun cells hc => Dk.fill_all rfl cells C hC hc
    have hzz : (Dk.zero65 0).toArray.size = 65 := rfl
    generalize (Dk.zero65 0).toArray = Z at hz hzz
    simp [Instr.buildSlice, run_underlying Try.underlying60, sizeOf, typeInfo, hq, hi, hz, hfl, newRow, newObj]
    rfl
theorem Try.run_load_ws (W : World) (p : Addr) (V : Value) (h : W.cell? p = some V) : (Instr.loadAt 60 (.pointer (some p))).run Try.prog W = .ok V W := by simp [go_sem, h]
theorem Try.run_store_ws (W : World) (p : Addr) (q : Option Addr) (n c : Nat) (U : Value) (h : W.cell? p = some U) (hf : W.frozen? p = false) : (Instr.storeAt 60 (.pointer (some p)) (.slice q n c)).run Try.prog W = .ok () (W.setCell p (.slice q n c)) := by simp [go_sem, h, hf]
theorem Try.info_write : (Try.prog.info? 70).map (fun i => (i.zero, i.size, i.bytes)) = some (some (.agg (Dk.zero65 0).toArray), 65, 72) := by kernel_rfl
theorem Try.size_write : (Try.prog.info? 70).map (·.size) = some 65 := by kernel_rfl
theorem Dk.all_one (b : List UInt8) (i : Nat) : ∀ v ∈ Dk.wrC (i, b), v.oneCell' = true := fun v hv => by
  rcases List.mem_cons.1 hv with rfl | hv
  · rfl
  · obtain ⟨u, _, rfl⟩ := List.mem_map.1 hv; rfl
theorem Dk.zero65_len (i : Nat) : (Dk.zero65 i).length = 65 := rfl
/-- The write, as it lies ahead of the append. -/
theorem Try.lay_write (w : World) (i : Nat) (b : List UInt8) (hb : b.length ≤ 64) (ad : Option Addr) (cap : Nat) (hv : b = [] ∨ ∃ sb so, ad = some ⟨sb, so, none⟩ ∧ sb < w.heap.size ∧ ∀ (j : Nat) (u : Value), (Lib.byteCells b)[j]? = some u → w.cell? ⟨sb, so + j, none⟩ = some u) :
    ∃ W2, (∀ ty, ∃ r, (Builtin.copy_ #[22, 22] ty #[.slice (some ⟨w.heap.size, 1, none⟩) 64 64, .slice ad b.length cap]).run Try.prog (w.alloc (.cells (Dk.zero65 i).toArray 70)) = .ok r W2) ∧
      W2.heap[w.heap.size]? = some (.cells (Dk.wrC (i, pad b)).toArray 70 (0, 0)) ∧ Below w.heap.size w W2 ∧ W2.heap.size = w.heap.size + 1 := by
  have h0 : (w.alloc (.cells (Dk.zero65 i).toArray 70)).heap[w.heap.size]? = some (.cells (Dk.zero65 i).toArray 70 (0, 0)) := heap_alloc_new w _
  have hbel := (Below.refl w.heap.size w).alloc (Nat.le_refl _) (.cells (Dk.zero65 i).toArray 70)
  have hsz : (w.alloc (.cells (Dk.zero65 i).toArray 70)).heap.size = w.heap.size + 1 := by simp
  by_cases hb0 : b = []
  · subst hb0
    exact ⟨_, fun ty => ⟨_, run_copy_none _ 22 22 ty 5 _ ad 64 64 0 cap Try.underlying22 (by kernel_rfl) (by simp)⟩, h0, hbel, hsz⟩
  · rcases hv with hv | ⟨sb, so, rfl, hsb, hc⟩
    · exact absurd hv hb0
    · have hrun := fun ty => Try.copyB (w.alloc (.cells (Dk.zero65 i).toArray 70)) ty w.heap.size 1 64 64 sb so b.length cap b (by simp only [Nat.min_def]; split <;> omega)
        (fun j v hj => by rw [hbel.cell (p := ⟨sb, so + j, none⟩) hsb]; exact hc j v hj)
        (fun j hj => by
          rw [cell_of_row _ _ _ _ _ _ h0]
          rw [List.getElem?_toArray, List.getElem?_eq_getElem (by rw [Dk.zero65_len]; omega)]; rfl)
        (fun j => frozen_of_row _ _ _ _ _ h0)
      refine ⟨_, fun ty => ⟨_, hrun ty⟩, ?_, ?_, ?_⟩
      · have h1 := Dk.heap_setCells w.heap.size 70 (Lib.byteCells b) 1 _ _ h0 (by rw [Dk.byteCells_len, Dk.zero65_len]; omega)
        rw [h1]
        congr 3
        simp only [Dk.splice, Dk.zero65, Dk.wrC, List.take_succ_cons, List.take_zero, Dk.byteCells_len, pad]
        rw [show 1 + b.length = b.length + 1 by omega, List.drop_succ_cons]
        simp only [Lib.byteCells, List.map_append, List.map_replicate, List.cons_append, List.nil_append, List.drop_replicate]
      · obtain ⟨h1, h2, h3, h4, h5⟩ := Dk.setCells_same w.heap.size (Lib.byteCells b) 1 (w.alloc (.cells (Dk.zero65 i).toArray 70))
        exact ⟨h1.trans hbel.os, h2.trans hbel.tape, h3.trans hbel.output, by rw [h4]; exact hbel.size, fun k hk => (h5 k (by omega)).trans (hbel.block k hk)⟩
      · rw [(Dk.setCells_same w.heap.size (Lib.byteCells b) 1 _).2.2.2.1]; exact hsz
theorem Dk.wrCs_one (W : List Wr) (p : Wr) : Dk.wrCs (W ++ [p]) = Dk.wrCs W ++ Dk.wrC p := by simp [Dk.wrCs]
/-- One write more. -/
theorem Try.Mem.more {W2 W w5 : World} {x l t : Nat} {V : Value} {s : DS} {T : List Nat} (h : Try.Mem W2 x l t V s T) (hW : ∀ k, k < W2.heap.size → W.heap[k]? = W2.heap[k]?) (hsz : W2.heap.size ≤ W.heap.size) (hg : W.grownBy w5 V.ownBlock) (g c : Nat) (p : Wr)
    (hown : w5.ownsRow 0 70 65 (.slice (some ⟨g, 0, none⟩) (s.W.length + 1) c) (s.W.length + 1) (Dk.wrCs s.W ++ Dk.wrC p)) (hat : V.ownBlock = some g ∨ W2.heap.size ≤ g) (hp : p.1 < s.n ∧ p.2.length = 64) (hw : s.W.length < 1000000) :
    Try.Mem (w5.setCell ⟨x, 1, none⟩ (.slice (some ⟨g, 0, none⟩) (s.W.length + 1) c)) x l t (.slice (some ⟨g, 0, none⟩) (s.W.length + 1) c) { s with W := s.W ++ [p] } T := by
  have hb : ∀ k, k < W2.heap.size → V.ownBlock ≠ some k → w5.heap[k]? = W2.heap[k]? := fun k hk hv => (hg.block k (by omega) (fun e => hv e.symm)).trans (hW k hk)
  have hlx := Dk.block_lt h.hx
  have hll := Dk.block_lt h.hl
  have hlt : t < W2.heap.size := h.foot_lt t (.inr (.inr (.inl rfl)))
  have hx5 : w5.heap[x]? = _ := (hb x hlx (fun e => (h.vx x e).1 rfl)).trans h.hx
  have hl5 : w5.heap[l]? = _ := (hb l hll (fun e => (h.vx l e).2.1 rfl)).trans h.hl
  have ht5 : w5.heap[t]? = W2.heap[t]? := hb t hlt (fun e => (h.vx t e).2.2 rfl)
  have hgn : g ≠ x ∧ g ≠ l ∧ g ≠ t := by
    rcases hat with e | e
    · exact h.vx g e
    · exact ⟨by omega, by omega, by omega⟩
  have h1 := heap_setCell_same w5 x 1 _ _ (.slice (some ⟨g, 0, none⟩) (s.W.length + 1) c) hx5
  have h5 : ∀ k, k ≠ x → (w5.setCell ⟨x, 1, none⟩ (.slice (some ⟨g, 0, none⟩) (s.W.length + 1) c)).heap[k]? = w5.heap[k]? := fun k hk => Below.heap_setCell w5 ⟨x, 1, none⟩ _ k hk
  refine ⟨h1.trans (by simp [Dk.dsk]), (h5 l h.xl.symm).trans hl5, h.ht.imp fun _ e => ((h5 t h.xt.symm).trans ht5).trans e, ?_, h.xl, h.xt, h.lt, fun k e => ?_, h.lL, h.lT, h.good.append (GoodW.one (a := p.1) (b := p.2) hp.1 hp.2), h.n0, h.n1, by simp; omega, h.nct⟩
  · have := Dk.row_heap hown (fun k e => h5 k (by simp [Value.ownBlock] at e; omega))
    simpa [Dk.wrCs_one] using this
  · simp only [Value.ownBlock, Option.some.injEq] at e
    subst e; exact hgn
set_option maxRecDepth 20000 in
set_option maxHeartbeats 1000000 in
theorem Try.write_ok {w : World} {x l t : Nat} {V : Value} {s : DS} {T : List Nat} (h : Try.Mem w x l t V s T) (hT : T = Dk.lats s.n s.W) (hd : s.dead = false) (hw1 : s.W.length < 1000000) (hbl : s.fset = false ∨ 0 < s.fl) (hwr : s.wrote < 1000000000) (hfl : s.fl ≤ 9223372036854775807) (hfl0 : 0 ≤ s.fl) (i : Nat) (hi : i < s.n) (b : List UInt8) (hb : b.length ≤ 64) (v : Value) (hv : Dk.Src w v b) :
    Calls Try.prog 9 #[.pointer (some ⟨x, 0, none⟩), .int .i64 i, v] w fun e w' => (e = .returned (.int .i64 0) ∧ ∃ V', Try.Mem w' x l t V' (s.put i b) (Dk.lats s.n (s.put i b).W) ∧ Dk.Wo (Dk.foot x l t V) w w' ∧ ∀ k, V'.ownBlock = some k → V.ownBlock = some k ∨ w.heap.size ≤ k) := by
  have c3 : w.cell? ⟨x, 3, none⟩ = some (.bool s.dead) := h.c0 3 _ rfl
  rw [hd] at c3
  have hha := Try.has_any h i
  rw [show decide (0 ≤ (i : Int) ∧ (i : Int) < (s.n : Int)) = true by simp; omega] at hha
  obtain ⟨ad, cap, rfl, hv⟩ := hv
  have q0 : decide ((64 : Int) < (b.length : Int)) = false := by simp; omega
  obtain ⟨W2, hcp0, hN, hbel, hsz⟩ := Try.lay_write w i b hb ad cap hv
  have hxw : x < w.heap.size := Dk.block_lt h.hx
  have hM2 : Try.Mem W2 x l t V s T := h.keep fun k hk => hbel.block k (h.foot_lt k hk)
  have hxw2 : x < W2.heap.size := Dk.block_lt hM2.hx
  have d1 : W2.cell? ⟨x, 1, none⟩ = some V := hM2.c0 1 _ rfl
  have hsi : (Try.prog.info? 70).map (·.size) = some (Dk.wrC (i, pad b)).length := by rw [Try.size_write, Dk.wrC_len (pad_length hb)]
  have hCl : (Dk.wrC (i, pad b)).length = 65 := Dk.wrC_len (pad_length hb)
  have hC1 := Dk.all_one (pad b) i
  have hVN : V.ownBlock ≠ some w.heap.size := fun e => by have := (h.hv.lt _ e).2; omega
  have HM0 : Hid (Try.Mem w x l t V s T) := h
  have HM2 : Hid (Try.Mem W2 x l t V s T) := hM2
  clear h hd hM2
  obtain ⟨C, hC⟩ : ∃ C, C = Dk.wrC (i, pad b) := ⟨_, rfl⟩
  rw [← hC] at hsi hN hCl hC1
  have HC : Hid (C = Dk.wrC (i, pad b)) := hC
  have HSZ : Hid (W2.heap.size = w.heap.size + 1) := hsz
  obtain ⟨Z0, Zi, hZ1, hZ2, hZ3, hcp⟩ : ∃ Z0 Zi : Array Value, (∀ w, (Instr.build 70 #[(0, .int .i64 i)]).run Try.prog w = .ok (.agg Zi) w) ∧ (∀ w : World, (Instr.alloc 70 true (.tuple #[])).run Try.prog w = .ok (.pointer (some ⟨w.heap.size, 0, none⟩)) (w.alloc (.cells Z0 70))) ∧
      (∀ w : World, (Instr.storeAt 70 (.pointer (some ⟨w.heap.size, 0, none⟩)) (.agg Zi)).run Try.prog (w.alloc (.cells Z0 70)) = .ok () (w.alloc (.cells Zi 70))) ∧
      (∀ ty, ∃ r, (Builtin.copy_ #[22, 22] ty #[.slice (some ⟨w.heap.size, 1, none⟩) 64 64, .slice ad b.length cap]).run Try.prog (w.alloc (.cells Zi 70)) = .ok r W2) :=
    ⟨_, _, Try.run_build i, Try.run_alloc, fun w => run_storeAt_new w 70 (Dk.zero65 0).toArray (Dk.zero65 i).toArray Try.size_write (by simp [Dk.zero65_len]) (all_oneCell_toArray (Dk.all_one _ i)), hcp0⟩
  obtain ⟨r, hcp1⟩ := hcp 3
  obtain ⟨i0, hi0, hz0, hz1, hz2⟩ := info_parts Try.info_write
  have HT : Hid (T = Dk.lats s.n s.W) := hT
  have hgood : i < s.n ∧ (pad b).length = 64 := ⟨hi, pad_length hb⟩
  have Hbel : Hid (Below w.heap.size w W2) := hbel
  have Hend : Hid (∀ (w5 : World) (g c5 H : Nat), (W2.drew.alloc (.cells C.toArray 70)).grownBy w5 V.ownBlock → w5.ownsRow 0 70 65 (.slice (some ⟨g, 0, none⟩) (s.W.length + 1) c5) (s.W.length + 1) (Dk.wrCs s.W ++ C) → (V.ownBlock = some g ∨ g = H) → W2.heap.size ≤ H →
      Try.Mem (w5.setCell ⟨x, 1, none⟩ (.slice (some ⟨g, 0, none⟩) (s.W.length + 1) c5)) x l t (.slice (some ⟨g, 0, none⟩) (s.W.length + 1) c5) (s.lay i b) T ∧ Dk.Wo (Dk.foot x l t V) w (w5.setCell ⟨x, 1, none⟩ (.slice (some ⟨g, 0, none⟩) (s.W.length + 1) c5)) ∧ (V.ownBlock = some g ∨ w.heap.size ≤ g)) := fun w5 g c5 H hg hown hat hH => by
    have hs2 := Hbel.out.size
    refine ⟨HM2.out.more (fun k hk => Below.heap_alloc W2.drew _ k hk) (by simp) hg g c5 (i, pad b) (by rw [← HC.out]; exact hown) (by rcases hat with e | e; exact .inl e; exact .inr (by omega)) hgood hw1, Dk.Wo.setCell ?_ x 1 _ (.inl (.inl rfl)), by rcases hat with e | e; exact .inl e; exact .inr (by omega)⟩
    have h1 : Dk.Wo (Dk.foot x l t V) w W2 := (Dk.Wo.refl _ w).below Hbel.out (Nat.le_refl _)
    have h2 := (h1.drew).alloc (.cells C.toArray 70)
    exact ⟨hg.os.trans h2.os, hg.tape.trans h2.tape, hg.output.trans h2.output, Nat.le_trans h2.size hg.size, fun k hk hb => (hg.block k (Nat.lt_of_lt_of_le hk h2.size) (fun e => hb (.inr (.inr (.inr e.symm))))).trans (h2.block k hk hb)⟩
  clear hC hsz hv hcp0 hcp hT hgood
  go_enter Try.func9, Try.ntmps9
  go_upto_if 20 with (go_at_call 20; refine hha.mono ?_; clear hha; rintro e w1 ⟨rfl, rfl⟩)
  go_upto_region 5 with (fail)
  refine wp_region_lit ?_
  go_step
  go_step
  go_step
  refine Dk.wpList_build rfl 70 (.tmp 21) rfl rfl (hZ1 _) ?_
  refine Dk.wpList_alloc rfl 70 rfl (hZ2 _) ?_
  refine Dk.wpList_store rfl 70 (.tmp 7) (.tmp 22) rfl rfl rfl (hZ3 _) ?_
  simp only [Act.put, List.setIfInBounds_toArray, List.set_cons_zero, List.set_cons_succ]
  clear hZ1 hZ2 hZ3
  go_wp2_with (at_builtin; refine wpList_copy_runI _ rfl _ _ 22 22 rfl _ _ rfl rfl hcp1 ?_)
  refine wp_region_held_drew (S := fun W => W.heap[w1.heap.size]? = some (.cells C.toArray 70 (0, 0))) (by kernel_rfl) hN ?_
  intro hS
  refine wpAnyH_take (i := 0) (v := .pointer (some ⟨x, 0, none⟩)) rfl (by kernel_rfl) (by kernel_rfl) (by kernel_rfl) (fun _ _ _ h => h) (Or.inl ⟨by rfl, fun w _ => by kernel_rfl⟩) hS ?_
  simp only [Act.put, List.getElem_toArray, List.getElem_cons_zero, List.setIfInBounds_toArray, List.set_cons_zero, List.set_cons_succ]
  refine wpAnyH_take (i := 1) (v := .pointer (some ⟨x, 0, none⟩)) rfl (by kernel_rfl) (by kernel_rfl) (by kernel_rfl) (fun _ _ _ h => h) (Or.inl ⟨by rfl, fun w _ => by kernel_rfl⟩) hS ?_
  simp only [Act.put, List.getElem_toArray, List.getElem_cons_zero, List.getElem_cons_succ, List.setIfInBounds_toArray, List.set_cons_zero, List.set_cons_succ]
  refine wpAnyH_take (i := 2) (v := .pointer (some ⟨x, 0, none⟩)) rfl (by kernel_rfl) (by kernel_rfl) (by kernel_rfl) (fun _ _ _ h => h) (Or.inl ⟨by rfl, fun w _ => by kernel_rfl⟩) hS ?_
  simp only [Act.put, List.getElem_toArray, List.getElem_cons_zero, List.getElem_cons_succ, List.setIfInBounds_toArray, List.set_cons_zero, List.set_cons_succ]
  refine wpAnyH_take (i := 3) (v := .pointer (some ⟨x, 1, none⟩)) rfl (by kernel_rfl) (by kernel_rfl) (by kernel_rfl) (fun _ _ _ h => h) (Or.inl ⟨by rfl, fun w _ => by kernel_rfl⟩) hS ?_
  simp only [Act.put, List.getElem_toArray, List.getElem_cons_zero, List.getElem_cons_succ, List.setIfInBounds_toArray, List.set_cons_zero, List.set_cons_succ]
  refine wpAnyH_take (i := 5) (v := .agg C.toArray) rfl (by kernel_rfl) (by kernel_rfl) (by kernel_rfl) (fun _ _ _ h => h) (yieldsIf_load_mid (by rfl) 70 (.tmp 7) rfl w1.heap.size 0 rfl C _ (fun w h => fun j v hj => by rw [Nat.zero_add, cell_of_row _ _ _ _ _ _ h]; simpa using hj) Try.underlying70 rfl hsi) hS ?_
  simp only [Act.put, List.getElem_toArray, List.getElem_cons_zero, List.getElem_cons_succ, List.setIfInBounds_toArray, List.set_cons_zero, List.set_cons_succ]
  have hS6 : (W2.drew.alloc (.cells C.toArray 70)).heap[w1.heap.size]? = some (.cells C.toArray 70 (0, 0)) := (Below.heap_alloc W2.drew _ _ (by have := HSZ.out; show w1.heap.size < W2.heap.size; omega)).trans hN
  have d6 : (W2.drew.alloc (.cells C.toArray 70)).cell? ⟨x, 1, none⟩ = some V := (((Below.refl W2.drew.heap.size W2.drew).alloc (Nat.le_refl _) _).cell (p := ⟨x, 1, none⟩) hxw2).trans d1
  have hrow6 : (W2.drew.alloc (.cells C.toArray 70)).ownsRow 0 70 65 V s.W.length (Dk.wrCs s.W) := Dk.row_heap (w := W2) HM2.out.hv fun k e => Below.heap_alloc W2.drew _ _ (HM2.out.hv.lt k e).2
  have hnews : ∀ j u, C[j]? = some u → (W2.drew.alloc (.cells C.toArray 70)).cell? ((⟨W2.drew.heap.size, 0, none⟩ : Addr).add j) = some u := World.news_of_block (cs := C.toArray) (t := 70) (fr := (0, 0)) (heap_alloc_new W2.drew _)
  have hnx : x ≠ w1.heap.size := by omega
  refine wpAnyH_ready (rs := [4, 6]) (by kernel_rfl) (by simp) ?_
  refine AllReadyH.cons rfl (fun K hK => ?_) (AllReadyH.cons rfl (fun K hK => ?_) AllReadyH.nil)
  case' refine_1 =>
    rw [if_pos (by rfl)]
    refine Dk.wp_loadAt 60 (.tmp 30) rfl rfl (Try.run_load_ws W2.drew ⟨x, 1, none⟩ V d1) ?_
    refine hK.out _ _ hN (fun _ => ?_)
    clear hK K
    simp only [Act.put, List.getElem_toArray, List.getElem_cons_zero, List.getElem_cons_succ, List.setIfInBounds_toArray, List.set_cons_zero, List.set_cons_succ]
    refine wpAnyH_ready (rs := [6]) (by kernel_rfl) (by simp) ?_
    refine AllReadyH.cons rfl (fun K hK => ?_) AllReadyH.nil
    rw [if_pos (by rfl)]
    refine Dk.wp_buildSlice 60 (.tmp 32) rfl rfl (Try.run_buildSlice C.toArray hCl W2.drew) ?_
    refine hK.out _ _ hS6 (fun _ => ?_)
    clear hK K
    simp only [Act.put, List.getElem_toArray, List.getElem_cons_zero, List.getElem_cons_succ, List.setIfInBounds_toArray, List.set_cons_zero, List.set_cons_succ]
  case' refine_2 =>
    rw [if_pos (by rfl)]
    refine Dk.wp_buildSlice 60 (.tmp 32) rfl rfl (Try.run_buildSlice C.toArray hCl W2.drew) ?_
    refine hK.out _ _ hS6 (fun _ => ?_)
    clear hK K
    simp only [Act.put, List.getElem_toArray, List.getElem_cons_zero, List.getElem_cons_succ, List.setIfInBounds_toArray, List.set_cons_zero, List.set_cons_succ]
    refine wpAnyH_ready (rs := [4]) (by kernel_rfl) (by simp) ?_
    refine AllReadyH.cons rfl (fun K hK => ?_) AllReadyH.nil
    rw [if_pos (by rfl)]
    refine Dk.wp_loadAt 60 (.tmp 30) rfl rfl (Try.run_load_ws _ ⟨x, 1, none⟩ V d6) ?_
    refine hK.out _ _ hS6 (fun _ => ?_)
    clear hK K
    simp only [Act.put, List.getElem_toArray, List.getElem_cons_zero, List.getElem_cons_succ, List.setIfInBounds_toArray, List.set_cons_zero, List.set_cons_succ]
  all_goals
    refine wpAnyH_ready (rs := [7]) (by kernel_rfl) (by simp) ?_
    refine AllReadyH.cons rfl (fun K hK => ?_) AllReadyH.nil
    rw [if_pos (by rfl)]
    refine wp_append_lies _ (.tmp 31) (.tmp 33) 60 rfl 0 70 i0 _ 65 72 Try.underlying60 hi0 hz0 hz1 hz2 rfl (by omega) V s.W.length (Dk.wrCs s.W) rfl hrow6 ⟨W2.drew.heap.size, 0, none⟩ 1 1 C rfl (by rw [hCl]) hnews hC1 (by omega) (by unfold maxLen; omega) (by omega) (by omega) _ rfl ?_
    intro g cap5 w5 hown5 hgrow hat hlt5
    have hsz5 := hgrow.size
    have hS7 : w5.heap[w1.heap.size]? = some (.cells C.toArray 70 (0, 0)) := (hgrow.block _ (by have := HSZ.out; simp; omega) (fun e => hVN e.symm)).trans hS6
    obtain ⟨W6, hW6⟩ : ∃ W6, W6 = w5.setCell ⟨x, 1, none⟩ (.slice (some ⟨g, 0, none⟩) (s.W.length + 1) cap5) := ⟨_, rfl⟩
    have hgs : W2.heap.size < (W2.drew.alloc (.cells C.toArray 70)).heap.size := by simp
    obtain ⟨hM6, hW6o, hgl⟩ := Hend.out w5 g cap5 _ hgrow hown5 hat (by simp)
    have hS8 : W6.heap[w1.heap.size]? = some (.cells C.toArray 70 (0, 0)) := by rw [hW6]; exact (Below.heap_setCell w5 ⟨x, 1, none⟩ _ _ (by simp; omega)).trans hS7
    have hVx : V.ownBlock ≠ some x := fun e => (HM2.out.vx x e).1 rfl
    have hx5 : w5.heap[x]? = _ := (hgrow.block x (by omega) (fun e => hVx e.symm)).trans ((Below.heap_alloc W2.drew _ x hxw2).trans HM2.out.hx)
    have d5 : w5.cell? ⟨x, 1, none⟩ = some V := by rw [cell_of_row _ _ _ _ _ _ hx5]; rfl
    have f5 : w5.frozen? ⟨x, 1, none⟩ = false := frozen_of_row _ _ _ _ _ hx5
    have hst := Try.run_store_ws w5 ⟨x, 1, none⟩ (some ⟨g, 0, none⟩) (s.W.length + 1) cap5 V d5 f5
    rw [← hW6] at hM6 hW6o hst
    refine hK.out _ _ hS7 (fun _ => ?_)
    clear hK K
    simp only [Act.put, List.getElem_toArray, List.getElem_cons_zero, List.getElem_cons_succ, List.setIfInBounds_toArray, List.set_cons_zero, List.set_cons_succ]
    refine wpAnyH_take (i := 8) (v := .pointer (some ⟨x, 0, none⟩)) rfl (by kernel_rfl) (by kernel_rfl) (by kernel_rfl) (fun _ _ _ h => h) (Or.inl ⟨by rfl, fun w _ => by kernel_rfl⟩) hS7 ?_
    simp only [Act.put, List.getElem_toArray, List.getElem_cons_zero, List.getElem_cons_succ, List.setIfInBounds_toArray, List.set_cons_zero, List.set_cons_succ]
    refine wpAnyH_take (i := 9) (v := .pointer (some ⟨x, 1, none⟩)) rfl (by kernel_rfl) (by kernel_rfl) (by kernel_rfl) (fun _ _ _ h => h) (Or.inl ⟨by rfl, fun w _ => by kernel_rfl⟩) hS7 ?_
    simp only [Act.put, List.getElem_toArray, List.getElem_cons_zero, List.getElem_cons_succ, List.setIfInBounds_toArray, List.set_cons_zero, List.set_cons_succ]
    refine wpAnyH_ready (rs := [10]) (by kernel_rfl) (by simp) ?_
    refine AllReadyH.cons rfl (fun K hK => ?_) AllReadyH.nil
    rw [if_pos (by rfl)]
    refine Dk.wp_storeAt 60 (.tmp 36) (.tmp 34) rfl rfl rfl hst ?_
    refine hK.out _ _ hS8 (fun _ => ?_)
    clear hK K
    simp only [Act.put, List.getElem_toArray, List.getElem_cons_zero, List.getElem_cons_succ]
    refine wpAnyH_done (by kernel_rfl) ?_ _
    have e2 : W6.cell? ⟨x, 2, none⟩ = some (.slice (some ⟨t, 0, none⟩) s.n s.ct) := hM6.c0 2 _ rfl
    have e1 : W6.cell? ⟨x, 1, none⟩ = some (.slice (some ⟨g, 0, none⟩) (s.W.length + 1) cap5) := hM6.c0 1 _ rfl
    obtain ⟨e3, g3⟩ := hM6.tcell hi
    have q1 : (i : Int) < (s.n : Int) := by omega
    have hM8 : Try.Mem (W6.setCell ⟨t, i, none⟩ (.int .i64 ((s.W.length : Int) + 1))) x l t (.slice (some ⟨g, 0, none⟩) (s.W.length + 1) cap5) (s.lay i b) (Dk.lats s.n (s.W ++ [(i, pad b)])) := by
      have h1 := hM6.setT i (s.W.length + 1) hi
      rw [HT.out, Dk.lats_one s.n s.W (i, pad b)] at h1
      exact h1
    have hW8 : Dk.Wo (Dk.foot x l t V) w1 (W6.setCell ⟨t, i, none⟩ (.int .i64 ((s.W.length : Int) + 1))) := hW6o.setCell t i _ (.inl (.inr (.inr (.inl rfl))))
    have hblk : ∀ W : World, W.heap = (W6.setCell ⟨t, i, none⟩ (.int .i64 ((s.W.length : Int) + 1))).heap → W.os = W6.os → W.tape = W6.tape → W.output = W6.output → Calls Try.prog 21 #[.pointer (some ⟨x, 0, none⟩)] W fun e w' => e = .returned (.bool false) ∧ Try.Mem w' x l t (.slice (some ⟨g, 0, none⟩) (s.W.length + 1) cap5) (s.lay i b) (Dk.lats s.n (s.W ++ [(i, pad b)])) ∧ Dk.Wo (Dk.foot x l t V) w1 w' := fun W h1 h2 h3 h4 =>
      (Try.blows_no (hM8.eqv h1) hbl).mono fun e w' ⟨r1, r2⟩ => ⟨r1, by rw [r2]; exact hM8.eqv h1, by rw [r2]; exact hW8.eqv h1 h2 h3 h4⟩
    have HGL : Hid (V.ownBlock = some g ∨ w1.heap.size ≤ g) := hgl
    clear hM6 hW6o hM8 hW8 hown5 hgrow hat hlt5 hsz5 hS7 hW6 hgs hgl hS8 hVx hx5 d5 f5 hst hi0 hz0 hz1 hz2 hsi hN hbel hC1 hCl hcp1 hS6 d6 hrow6 hnews hS hVN hnx c3 d1 q0 hb hbl Hend
    go_wp2
    go_region
    all_goals
      go_wp2_with (first
        | (go_at_call 21; refine (hblk _ (by rfl) (by rfl) (by rfl) (by rfl)).mono ?_; clear hblk; rintro e w7 ⟨rfl, hM7, hW7⟩; have e4 : w7.cell? ⟨x, 4, none⟩ = some (.bool s.fset) := hM7.c0 4 _ rfl; have e5 : w7.cell? ⟨x, 5, none⟩ = some (.int .i64 s.fl) := hM7.c0 5 _ rfl; have e8 : w7.cell? ⟨x, 8, none⟩ = some (.int .i64 s.wrote) := hM7.c0 8 _ rfl; have g5 := hM7.f0 5; have g8 := hM7.f0 8; have HM7 : Hid _ := hM7; clear hM7)
        | fail)
      all_goals
        go_ret
        rename_i hfs
        have hvo : ∀ k, (Value.slice (some ⟨g, 0, none⟩) (s.W.length + 1) cap5).ownBlock = some k → V.ownBlock = some k ∨ w1.heap.size ≤ k := fun k e => by
          simp only [Value.ownBlock, Option.some.injEq] at e
          rw [← e]; exact HGL.out
        first
          | exact ⟨rfl, _, HM7.out.setF 8 (.int .i64 ((s.wrote : Int) + 1)) (s' := s.put i b) (by simp [Dk.dsk, DS.lay, DS.put, hfs]) rfl rfl rfl, hW7.setCell x 8 _ (.inl (.inl rfl)), hvo⟩
          | exact ⟨rfl, _, (HM7.out.setF 5 (.int .i64 (s.fl - 1)) (s' := { s.lay i b with fl := s.fl - 1 }) rfl rfl rfl rfl).setF 8 (.int .i64 ((s.wrote : Int) + 1)) (s' := s.put i b) (by simp [Dk.dsk, DS.lay, DS.put, hfs]) rfl rfl rfl, (hW7.setCell x 5 _ (.inl (.inl rfl))).setCell x 8 _ (.inl (.inl rfl)), hvo⟩
set_option maxRecDepth 20000 in
set_option maxHeartbeats 1000000 in
theorem Try.write_blow {w : World} {x l t : Nat} {V : Value} {s : DS} {T : List Nat} (h : Try.Mem w x l t V s T) (hT : T = Dk.lats s.n s.W) (hd : s.dead = false) (hw1 : s.W.length < 1000000) (hfs : s.fset = true) (hfl : s.fl ≤ 0) (hf : s.falls < 1000000000) (i : Nat) (hi : i < s.n) (b : List UInt8) (hb : b.length ≤ 64) (v : Value) (hv : Dk.Src w v b) :
    Calls Try.prog 9 #[.pointer (some ⟨x, 0, none⟩), .int .i64 i, v] w fun e w' => (e = .returned (.int .i64 41) ∧ Try.Mem w' x l t (.slice none 0 0) ((s.lay i b).fail s.fk s.ft) (Dk.lats s.n []) ∧ Dk.Wo (Dk.foot x l t V) w w') := by
  have c3 : w.cell? ⟨x, 3, none⟩ = some (.bool s.dead) := h.c0 3 _ rfl
  rw [hd] at c3
  have hha := Try.has_any h i
  rw [show decide (0 ≤ (i : Int) ∧ (i : Int) < (s.n : Int)) = true by simp; omega] at hha
  obtain ⟨ad, cap, rfl, hv⟩ := hv
  have q0 : decide ((64 : Int) < (b.length : Int)) = false := by simp; omega
  obtain ⟨W2, hcp0, hN, hbel, hsz⟩ := Try.lay_write w i b hb ad cap hv
  have hxw : x < w.heap.size := Dk.block_lt h.hx
  have hM2 : Try.Mem W2 x l t V s T := h.keep fun k hk => hbel.block k (h.foot_lt k hk)
  have hxw2 : x < W2.heap.size := Dk.block_lt hM2.hx
  have d1 : W2.cell? ⟨x, 1, none⟩ = some V := hM2.c0 1 _ rfl
  have hsi : (Try.prog.info? 70).map (·.size) = some (Dk.wrC (i, pad b)).length := by rw [Try.size_write, Dk.wrC_len (pad_length hb)]
  have hCl : (Dk.wrC (i, pad b)).length = 65 := Dk.wrC_len (pad_length hb)
  have hC1 := Dk.all_one (pad b) i
  have hVN : V.ownBlock ≠ some w.heap.size := fun e => by have := (h.hv.lt _ e).2; omega
  have HM0 : Hid (Try.Mem w x l t V s T) := h
  have HM2 : Hid (Try.Mem W2 x l t V s T) := hM2
  clear h hd hM2
  obtain ⟨C, hC⟩ : ∃ C, C = Dk.wrC (i, pad b) := ⟨_, rfl⟩
  rw [← hC] at hsi hN hCl hC1
  have HC : Hid (C = Dk.wrC (i, pad b)) := hC
  have HSZ : Hid (W2.heap.size = w.heap.size + 1) := hsz
  obtain ⟨Z0, Zi, hZ1, hZ2, hZ3, hcp⟩ : ∃ Z0 Zi : Array Value, (∀ w, (Instr.build 70 #[(0, .int .i64 i)]).run Try.prog w = .ok (.agg Zi) w) ∧ (∀ w : World, (Instr.alloc 70 true (.tuple #[])).run Try.prog w = .ok (.pointer (some ⟨w.heap.size, 0, none⟩)) (w.alloc (.cells Z0 70))) ∧
      (∀ w : World, (Instr.storeAt 70 (.pointer (some ⟨w.heap.size, 0, none⟩)) (.agg Zi)).run Try.prog (w.alloc (.cells Z0 70)) = .ok () (w.alloc (.cells Zi 70))) ∧
      (∀ ty, ∃ r, (Builtin.copy_ #[22, 22] ty #[.slice (some ⟨w.heap.size, 1, none⟩) 64 64, .slice ad b.length cap]).run Try.prog (w.alloc (.cells Zi 70)) = .ok r W2) :=
    ⟨_, _, Try.run_build i, Try.run_alloc, fun w => run_storeAt_new w 70 (Dk.zero65 0).toArray (Dk.zero65 i).toArray Try.size_write (by simp [Dk.zero65_len]) (all_oneCell_toArray (Dk.all_one _ i)), hcp0⟩
  obtain ⟨r, hcp1⟩ := hcp 3
  obtain ⟨i0, hi0, hz0, hz1, hz2⟩ := info_parts Try.info_write
  have HT : Hid (T = Dk.lats s.n s.W) := hT
  have hgood : i < s.n ∧ (pad b).length = 64 := ⟨hi, pad_length hb⟩
  have Hbel : Hid (Below w.heap.size w W2) := hbel
  have Hend : Hid (∀ (w5 : World) (g c5 H : Nat), (W2.drew.alloc (.cells C.toArray 70)).grownBy w5 V.ownBlock → w5.ownsRow 0 70 65 (.slice (some ⟨g, 0, none⟩) (s.W.length + 1) c5) (s.W.length + 1) (Dk.wrCs s.W ++ C) → (V.ownBlock = some g ∨ g = H) → W2.heap.size ≤ H →
      Try.Mem (w5.setCell ⟨x, 1, none⟩ (.slice (some ⟨g, 0, none⟩) (s.W.length + 1) c5)) x l t (.slice (some ⟨g, 0, none⟩) (s.W.length + 1) c5) (s.lay i b) T ∧ Dk.Wo (Dk.foot x l t V) w (w5.setCell ⟨x, 1, none⟩ (.slice (some ⟨g, 0, none⟩) (s.W.length + 1) c5)) ∧ (V.ownBlock = some g ∨ w.heap.size ≤ g)) := fun w5 g c5 H hg hown hat hH => by
    have hs2 := Hbel.out.size
    refine ⟨HM2.out.more (fun k hk => Below.heap_alloc W2.drew _ k hk) (by simp) hg g c5 (i, pad b) (by rw [← HC.out]; exact hown) (by rcases hat with e | e; exact .inl e; exact .inr (by omega)) hgood hw1, Dk.Wo.setCell ?_ x 1 _ (.inl (.inl rfl)), by rcases hat with e | e; exact .inl e; exact .inr (by omega)⟩
    have h1 : Dk.Wo (Dk.foot x l t V) w W2 := (Dk.Wo.refl _ w).below Hbel.out (Nat.le_refl _)
    have h2 := (h1.drew).alloc (.cells C.toArray 70)
    exact ⟨hg.os.trans h2.os, hg.tape.trans h2.tape, hg.output.trans h2.output, Nat.le_trans h2.size hg.size, fun k hk hb => (hg.block k (Nat.lt_of_lt_of_le hk h2.size) (fun e => hb (.inr (.inr (.inr e.symm))))).trans (h2.block k hk hb)⟩
  clear hC hsz hv hcp0 hcp hT hgood
  go_enter Try.func9, Try.ntmps9
  go_upto_if 20 with (go_at_call 20; refine hha.mono ?_; clear hha; rintro e w1 ⟨rfl, rfl⟩)
  go_upto_region 5 with (fail)
  refine wp_region_lit ?_
  go_step
  go_step
  go_step
  refine Dk.wpList_build rfl 70 (.tmp 21) rfl rfl (hZ1 _) ?_
  refine Dk.wpList_alloc rfl 70 rfl (hZ2 _) ?_
  refine Dk.wpList_store rfl 70 (.tmp 7) (.tmp 22) rfl rfl rfl (hZ3 _) ?_
  simp only [Act.put, List.setIfInBounds_toArray, List.set_cons_zero, List.set_cons_succ]
  clear hZ1 hZ2 hZ3
  go_wp2_with (at_builtin; refine wpList_copy_runI _ rfl _ _ 22 22 rfl _ _ rfl rfl hcp1 ?_)
  refine wp_region_held_drew (S := fun W => W.heap[w1.heap.size]? = some (.cells C.toArray 70 (0, 0))) (by kernel_rfl) hN ?_
  intro hS
  refine wpAnyH_take (i := 0) (v := .pointer (some ⟨x, 0, none⟩)) rfl (by kernel_rfl) (by kernel_rfl) (by kernel_rfl) (fun _ _ _ h => h) (Or.inl ⟨by rfl, fun w _ => by kernel_rfl⟩) hS ?_
  simp only [Act.put, List.getElem_toArray, List.getElem_cons_zero, List.setIfInBounds_toArray, List.set_cons_zero, List.set_cons_succ]
  refine wpAnyH_take (i := 1) (v := .pointer (some ⟨x, 0, none⟩)) rfl (by kernel_rfl) (by kernel_rfl) (by kernel_rfl) (fun _ _ _ h => h) (Or.inl ⟨by rfl, fun w _ => by kernel_rfl⟩) hS ?_
  simp only [Act.put, List.getElem_toArray, List.getElem_cons_zero, List.getElem_cons_succ, List.setIfInBounds_toArray, List.set_cons_zero, List.set_cons_succ]
  refine wpAnyH_take (i := 2) (v := .pointer (some ⟨x, 0, none⟩)) rfl (by kernel_rfl) (by kernel_rfl) (by kernel_rfl) (fun _ _ _ h => h) (Or.inl ⟨by rfl, fun w _ => by kernel_rfl⟩) hS ?_
  simp only [Act.put, List.getElem_toArray, List.getElem_cons_zero, List.getElem_cons_succ, List.setIfInBounds_toArray, List.set_cons_zero, List.set_cons_succ]
  refine wpAnyH_take (i := 3) (v := .pointer (some ⟨x, 1, none⟩)) rfl (by kernel_rfl) (by kernel_rfl) (by kernel_rfl) (fun _ _ _ h => h) (Or.inl ⟨by rfl, fun w _ => by kernel_rfl⟩) hS ?_
  simp only [Act.put, List.getElem_toArray, List.getElem_cons_zero, List.getElem_cons_succ, List.setIfInBounds_toArray, List.set_cons_zero, List.set_cons_succ]
  refine wpAnyH_take (i := 5) (v := .agg C.toArray) rfl (by kernel_rfl) (by kernel_rfl) (by kernel_rfl) (fun _ _ _ h => h) (yieldsIf_load_mid (by rfl) 70 (.tmp 7) rfl w1.heap.size 0 rfl C _ (fun w h => fun j v hj => by rw [Nat.zero_add, cell_of_row _ _ _ _ _ _ h]; simpa using hj) Try.underlying70 rfl hsi) hS ?_
  simp only [Act.put, List.getElem_toArray, List.getElem_cons_zero, List.getElem_cons_succ, List.setIfInBounds_toArray, List.set_cons_zero, List.set_cons_succ]
  have hS6 : (W2.drew.alloc (.cells C.toArray 70)).heap[w1.heap.size]? = some (.cells C.toArray 70 (0, 0)) := (Below.heap_alloc W2.drew _ _ (by have := HSZ.out; show w1.heap.size < W2.heap.size; omega)).trans hN
  have d6 : (W2.drew.alloc (.cells C.toArray 70)).cell? ⟨x, 1, none⟩ = some V := (((Below.refl W2.drew.heap.size W2.drew).alloc (Nat.le_refl _) _).cell (p := ⟨x, 1, none⟩) hxw2).trans d1
  have hrow6 : (W2.drew.alloc (.cells C.toArray 70)).ownsRow 0 70 65 V s.W.length (Dk.wrCs s.W) := Dk.row_heap (w := W2) HM2.out.hv fun k e => Below.heap_alloc W2.drew _ _ (HM2.out.hv.lt k e).2
  have hnews : ∀ j u, C[j]? = some u → (W2.drew.alloc (.cells C.toArray 70)).cell? ((⟨W2.drew.heap.size, 0, none⟩ : Addr).add j) = some u := World.news_of_block (cs := C.toArray) (t := 70) (fr := (0, 0)) (heap_alloc_new W2.drew _)
  have hnx : x ≠ w1.heap.size := by omega
  refine wpAnyH_ready (rs := [4, 6]) (by kernel_rfl) (by simp) ?_
  refine AllReadyH.cons rfl (fun K hK => ?_) (AllReadyH.cons rfl (fun K hK => ?_) AllReadyH.nil)
  case' refine_1 =>
    rw [if_pos (by rfl)]
    refine Dk.wp_loadAt 60 (.tmp 30) rfl rfl (Try.run_load_ws W2.drew ⟨x, 1, none⟩ V d1) ?_
    refine hK.out _ _ hN (fun _ => ?_)
    clear hK K
    simp only [Act.put, List.getElem_toArray, List.getElem_cons_zero, List.getElem_cons_succ, List.setIfInBounds_toArray, List.set_cons_zero, List.set_cons_succ]
    refine wpAnyH_ready (rs := [6]) (by kernel_rfl) (by simp) ?_
    refine AllReadyH.cons rfl (fun K hK => ?_) AllReadyH.nil
    rw [if_pos (by rfl)]
    refine Dk.wp_buildSlice 60 (.tmp 32) rfl rfl (Try.run_buildSlice C.toArray hCl W2.drew) ?_
    refine hK.out _ _ hS6 (fun _ => ?_)
    clear hK K
    simp only [Act.put, List.getElem_toArray, List.getElem_cons_zero, List.getElem_cons_succ, List.setIfInBounds_toArray, List.set_cons_zero, List.set_cons_succ]
  case' refine_2 =>
    rw [if_pos (by rfl)]
    refine Dk.wp_buildSlice 60 (.tmp 32) rfl rfl (Try.run_buildSlice C.toArray hCl W2.drew) ?_
    refine hK.out _ _ hS6 (fun _ => ?_)
    clear hK K
    simp only [Act.put, List.getElem_toArray, List.getElem_cons_zero, List.getElem_cons_succ, List.setIfInBounds_toArray, List.set_cons_zero, List.set_cons_succ]
    refine wpAnyH_ready (rs := [4]) (by kernel_rfl) (by simp) ?_
    refine AllReadyH.cons rfl (fun K hK => ?_) AllReadyH.nil
    rw [if_pos (by rfl)]
    refine Dk.wp_loadAt 60 (.tmp 30) rfl rfl (Try.run_load_ws _ ⟨x, 1, none⟩ V d6) ?_
    refine hK.out _ _ hS6 (fun _ => ?_)
    clear hK K
    simp only [Act.put, List.getElem_toArray, List.getElem_cons_zero, List.getElem_cons_succ, List.setIfInBounds_toArray, List.set_cons_zero, List.set_cons_succ]
  all_goals
    refine wpAnyH_ready (rs := [7]) (by kernel_rfl) (by simp) ?_
    refine AllReadyH.cons rfl (fun K hK => ?_) AllReadyH.nil
    rw [if_pos (by rfl)]
    refine wp_append_lies _ (.tmp 31) (.tmp 33) 60 rfl 0 70 i0 _ 65 72 Try.underlying60 hi0 hz0 hz1 hz2 rfl (by omega) V s.W.length (Dk.wrCs s.W) rfl hrow6 ⟨W2.drew.heap.size, 0, none⟩ 1 1 C rfl (by rw [hCl]) hnews hC1 (by omega) (by unfold maxLen; omega) (by omega) (by omega) _ rfl ?_
    intro g cap5 w5 hown5 hgrow hat hlt5
    have hsz5 := hgrow.size
    have hS7 : w5.heap[w1.heap.size]? = some (.cells C.toArray 70 (0, 0)) := (hgrow.block _ (by have := HSZ.out; simp; omega) (fun e => hVN e.symm)).trans hS6
    obtain ⟨W6, hW6⟩ : ∃ W6, W6 = w5.setCell ⟨x, 1, none⟩ (.slice (some ⟨g, 0, none⟩) (s.W.length + 1) cap5) := ⟨_, rfl⟩
    have hgs : W2.heap.size < (W2.drew.alloc (.cells C.toArray 70)).heap.size := by simp
    obtain ⟨hM6, hW6o, hgl⟩ := Hend.out w5 g cap5 _ hgrow hown5 hat (by simp)
    have hS8 : W6.heap[w1.heap.size]? = some (.cells C.toArray 70 (0, 0)) := by rw [hW6]; exact (Below.heap_setCell w5 ⟨x, 1, none⟩ _ _ (by simp; omega)).trans hS7
    have hVx : V.ownBlock ≠ some x := fun e => (HM2.out.vx x e).1 rfl
    have hx5 : w5.heap[x]? = _ := (hgrow.block x (by omega) (fun e => hVx e.symm)).trans ((Below.heap_alloc W2.drew _ x hxw2).trans HM2.out.hx)
    have d5 : w5.cell? ⟨x, 1, none⟩ = some V := by rw [cell_of_row _ _ _ _ _ _ hx5]; rfl
    have f5 : w5.frozen? ⟨x, 1, none⟩ = false := frozen_of_row _ _ _ _ _ hx5
    have hst := Try.run_store_ws w5 ⟨x, 1, none⟩ (some ⟨g, 0, none⟩) (s.W.length + 1) cap5 V d5 f5
    rw [← hW6] at hM6 hW6o hst
    refine hK.out _ _ hS7 (fun _ => ?_)
    clear hK K
    simp only [Act.put, List.getElem_toArray, List.getElem_cons_zero, List.getElem_cons_succ, List.setIfInBounds_toArray, List.set_cons_zero, List.set_cons_succ]
    refine wpAnyH_take (i := 8) (v := .pointer (some ⟨x, 0, none⟩)) rfl (by kernel_rfl) (by kernel_rfl) (by kernel_rfl) (fun _ _ _ h => h) (Or.inl ⟨by rfl, fun w _ => by kernel_rfl⟩) hS7 ?_
    simp only [Act.put, List.getElem_toArray, List.getElem_cons_zero, List.getElem_cons_succ, List.setIfInBounds_toArray, List.set_cons_zero, List.set_cons_succ]
    refine wpAnyH_take (i := 9) (v := .pointer (some ⟨x, 1, none⟩)) rfl (by kernel_rfl) (by kernel_rfl) (by kernel_rfl) (fun _ _ _ h => h) (Or.inl ⟨by rfl, fun w _ => by kernel_rfl⟩) hS7 ?_
    simp only [Act.put, List.getElem_toArray, List.getElem_cons_zero, List.getElem_cons_succ, List.setIfInBounds_toArray, List.set_cons_zero, List.set_cons_succ]
    refine wpAnyH_ready (rs := [10]) (by kernel_rfl) (by simp) ?_
    refine AllReadyH.cons rfl (fun K hK => ?_) AllReadyH.nil
    rw [if_pos (by rfl)]
    refine Dk.wp_storeAt 60 (.tmp 36) (.tmp 34) rfl rfl rfl hst ?_
    refine hK.out _ _ hS8 (fun _ => ?_)
    clear hK K
    simp only [Act.put, List.getElem_toArray, List.getElem_cons_zero, List.getElem_cons_succ]
    refine wpAnyH_done (by kernel_rfl) ?_ _
    have e2 : W6.cell? ⟨x, 2, none⟩ = some (.slice (some ⟨t, 0, none⟩) s.n s.ct) := hM6.c0 2 _ rfl
    have e1 : W6.cell? ⟨x, 1, none⟩ = some (.slice (some ⟨g, 0, none⟩) (s.W.length + 1) cap5) := hM6.c0 1 _ rfl
    obtain ⟨e3, g3⟩ := hM6.tcell hi
    have q1 : (i : Int) < (s.n : Int) := by omega
    have hM8 : Try.Mem (W6.setCell ⟨t, i, none⟩ (.int .i64 ((s.W.length : Int) + 1))) x l t (.slice (some ⟨g, 0, none⟩) (s.W.length + 1) cap5) (s.lay i b) (Dk.lats s.n (s.W ++ [(i, pad b)])) := by
      have h1 := hM6.setT i (s.W.length + 1) hi
      rw [HT.out, Dk.lats_one s.n s.W (i, pad b)] at h1
      exact h1
    have hW8 : Dk.Wo (Dk.foot x l t V) w1 (W6.setCell ⟨t, i, none⟩ (.int .i64 ((s.W.length : Int) + 1))) := hW6o.setCell t i _ (.inl (.inr (.inr (.inl rfl))))
    have hblk : ∀ W : World, W.heap = (W6.setCell ⟨t, i, none⟩ (.int .i64 ((s.W.length : Int) + 1))).heap → W.os = W6.os → W.tape = W6.tape → W.output = W6.output → Calls Try.prog 21 #[.pointer (some ⟨x, 0, none⟩)] W fun e w' => e = .returned (.bool true) ∧ Try.Mem w' x l t (.slice none 0 0) ((s.lay i b).fail s.fk s.ft) (Dk.lats s.n []) ∧ Dk.Wo (Dk.foot x l t V) w1 w' := fun W h1 h2 h3 h4 =>
      (Try.blows_yes (hM8.eqv h1) rfl hf hfs hfl).mono fun e w' ⟨r1, r2, r3⟩ => ⟨r1, r2, (hW8.eqv h1 h2 h3 h4).trans (r3.mono fun k e => by rcases e with e | e | e; exact .inl e; exact .inr (.inl e); exact .inr (.inr (.inl e)))⟩
    have HGL : Hid (V.ownBlock = some g ∨ w1.heap.size ≤ g) := hgl
    clear hM6 hW6o hM8 hW8 hown5 hgrow hat hlt5 hsz5 hS7 hW6 hgs hgl hS8 hVx hx5 d5 f5 hst hi0 hz0 hz1 hz2 hsi hN hbel hC1 hCl hcp1 hS6 d6 hrow6 hnews hS hVN hnx c3 d1 q0 hb hfs hfl Hend
    go_wp2
    go_region
    all_goals
      go_wp2_with (first
        | (go_at_call 21; refine (hblk _ (by rfl) (by rfl) (by rfl) (by rfl)).mono ?_; clear hblk; rintro e w7 ⟨rfl, hM7, hW7⟩)
        | fail)
      go_ret
      exact ⟨rfl, hM7, hW7⟩
end Go.Proofs
