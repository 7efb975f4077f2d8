/-
  The document's sum: what its walk wants.
-/
import Derived.Test.YtkfmfdnfjeofiaaDoorHf
import Derived.StillTailTactics
namespace Go.Proofs
open Go.RowKit Go.Wi Go.Dg
theorem Dg.ob_step2 {w wr w1 : World} {V : Value} (hw : Below w.heap.size w wr) {o : Obj} (h1 : Wo (fun k => V.ownBlock = some k) (wr.alloc o) w1) {l : List UInt8} (hV : Ob wr w.heap.size V l) : Below w.heap.size w w1 :=
  Wo.toBelow (hw.alloc hw.size o) (w1 := (wr.alloc o)) h1 (fun k e => (hV.lt k e).1) (Nat.le_trans hw.size (by simp))
def Dg.lenV : Value → Nat
  | .slice _ n _ => n
  | _ => 0
def Dg.zeros (n : Nat) : Nat := (119 - n % 64) % 64
theorem Dg.zeros_not {n m : Nat} (h : m < Dg.zeros n) : (n + 1 + m) % 64 ≠ 56 := by unfold Dg.zeros at h; omega
theorem Dg.zeros_is (n : Nat) : (n + 1 + Dg.zeros n) % 64 = 56 := by unfold Dg.zeros; omega
theorem Dg.be8_next (T t : Nat) (ht : t < 8) : (be8 T).take (t + 1) = (be8 T).take t ++ [UInt8.ofNat (T / 2 ^ (56 - 8 * t))] := by
  have : t = 0 ∨ t = 1 ∨ t = 2 ∨ t = 3 ∨ t = 4 ∨ t = 5 ∨ t = 6 ∨ t = 7 := by omega
  rcases this with rfl | rfl | rfl | rfl | rfl | rfl | rfl | rfl <;> rfl
theorem Dg.be8_cell (T t : Nat) (A : Int) (hA : A = 56 - 8 * (t : Int)) (ht : t < 8) : #[Value.int .u8 ((T : Int) / 2 ^ min A.toNat 64 % 256)] = (Lib.byteCells [UInt8.ofNat (T / 2 ^ (56 - 8 * t))]).toArray := by
  have e1 : min A.toNat 64 = 56 - 8 * t := by omega
  have e2 : ((T : Int) / 2 ^ min A.toNat 64 % 256) = (((UInt8.ofNat (T / 2 ^ (56 - 8 * t))).toNat : Nat) : Int) := by
    rw [e1, UInt8.toNat_ofNat']
    simp
  rw [e2]
  rfl
section
variable {P : Program} {ops : Array Oper} {a : Act} {w w' : World} {rest : List Oper} {o : Oper}
/-- An operation that only reads. -/
theorem Dg.still_value {L : Act → Prop} (hg : o.guard = none) {v : Value} (he : (execOp a.eval o).run P w = .ok (.value v) w) (h : wpStill P ops w L rest (a.put o.dst v)) : wpStill P ops w L (o :: rest) a := by
  refine wpStill_step fun K hK => ?_
  rw [if_pos (by simp [Region.wanted, hg])]
  unfold Oper.still
  rw [he, Oper.stillUpon_value]
  exact hK _ h
theorem Dg.region_tail {id : Nat} {Q : Exit → Act → World → Prop} {l : List Oper} (n : Nat) (hm : P.follows .mixedOrders = true) (hB : Region.lexTailB .any l.toArray n = true)
    (h : wpStill P l.toArray w.drew (fun a' => wpList P l.toArray Q (l.drop n) a' w.drew) (l.take n) a) : (Code.region id l.toArray true).wp P Q a w := wp_region_still_tail n hm hB h
theorem Dg.run_load {t : TypeId} {p : Operand} {pv v : Value} (ho : o.op = .load t p) (hp : a.eval p = pv) (h : (Instr.loadAt t pv).run P w = .ok v w') : (execOp a.eval o).run P w = .ok (.value v) w' := by
  unfold execOp
  rw [ho]
  simp only [hp, Sem.run_bind, h, Result.andThen, Sem.run_pure]
end
theorem Dg.Ar.one {T : TypeId} {w : World} {g : Nat} {l : List Nat} (h : Dg.Ar T w g l) : g < w.heap.size := block_lt h
theorem Dg.Ar.setRow {T : TypeId} {w : World} {g : Nat} {l : List Nat} (h : Dg.Ar T w g l) (l' : List Nat) : Dg.Ar T (w.setRow g (l'.map fun (n : Nat) => Value.int .u32 (n : Int)).toArray) g l' := setRow_heap w g _ _ _ _ h
theorem Dg.all_one (l : List Nat) : ((l.map fun (n : Nat) => Value.int .u32 (n : Int)).toArray).all (·.oneCell') = true := by simp [Value.oneCell']
theorem Tryd.size8 (l : List Nat) (h : l.length = 8) : (Tryd.prog.info? 60).map (·.size) = some ((l.map fun (n : Nat) => Value.int .u32 (n : Int)).toArray).size := by
  have : (Tryd.prog.info? 60).map (·.size) = some 8 := by kernel_rfl
  rw [this]
  simp [h]
theorem Tryd.size64 (l : List Nat) (h : l.length = 64) : (Tryd.prog.info? 62).map (·.size) = some ((l.map fun (n : Nat) => Value.int .u32 (n : Int)).toArray).size := by
  have : (Tryd.prog.info? 62).map (·.size) = some 64 := by kernel_rfl
  rw [this]
  simp [h]
theorem Tryd.new8 (w : World) (l : List Nat) (hl : l.length = 8) : ∀ c : Array Value, c.size = 8 → (storeCells ⟨w.heap.size, 0, none⟩ (l.map fun (n : Nat) => Value.int .u32 (n : Int)) 0).run Tryd.prog (w.alloc (.cells c 60)) = .ok () (w.alloc (.cells (l.map fun (n : Nat) => Value.int .u32 (n : Int)).toArray 60)) := fun c hc =>
  run_storeCells_new w 60 c (l.map fun (n : Nat) => Value.int .u32 (n : Int)).toArray (Tryd.size8 l hl) (by simp [hc, hl]) (Dg.all_one l)
theorem Tryd.new64 (w : World) (l : List Nat) (hl : l.length = 64) : ∀ c : Array Value, c.size = 64 → (storeCells ⟨w.heap.size, 0, none⟩ (l.map fun (n : Nat) => Value.int .u32 (n : Int)) 0).run Tryd.prog (w.alloc (.cells c 62)) = .ok () (w.alloc (.cells (l.map fun (n : Nat) => Value.int .u32 (n : Int)).toArray 62)) := fun c hc =>
  run_storeCells_new w 62 c (l.map fun (n : Nat) => Value.int .u32 (n : Int)).toArray (Tryd.size64 l hl) (by simp [hc, hl]) (Dg.all_one l)
theorem Tryd.store8 {w : World} {g : Nat} {l0 : List Nat} (h : Dg.Ar 60 w g l0) (h0 : l0.length = 8) (l : List Nat) (hl : l.length = 8) : (Instr.storeAt 60 (.pointer (some ⟨g, 0, none⟩)) (.agg (l.map fun (n : Nat) => Value.int .u32 (n : Int)).toArray)).run Tryd.prog w = .ok () (w.setRow g (l.map fun (n : Nat) => Value.int .u32 (n : Int)).toArray) := by
  simp only [Instr.storeAt, Instr.sureAddr, Sem.run_bind, Sem.run_pure, Result.andThen]
  exact run_storeVar_row w g _ _ _ _ h (Tryd.size8 l hl) (by simp [h0, hl]) (Dg.all_one l)
theorem Tryd.store64 {w : World} {g : Nat} {l0 : List Nat} (h : Dg.Ar 62 w g l0) (h0 : l0.length = 64) (l : List Nat) (hl : l.length = 64) : (Instr.storeAt 62 (.pointer (some ⟨g, 0, none⟩)) (.agg (l.map fun (n : Nat) => Value.int .u32 (n : Int)).toArray)).run Tryd.prog w = .ok () (w.setRow g (l.map fun (n : Nat) => Value.int .u32 (n : Int)).toArray) := by
  simp only [Instr.storeAt, Instr.sureAddr, Sem.run_bind, Sem.run_pure, Result.andThen]
  exact run_storeVar_row w g _ _ _ _ h (Tryd.size64 l hl) (by simp [h0, hl]) (Dg.all_one l)
theorem Tryd.load8 {w : World} {g : Nat} {l : List Nat} (h : Dg.Ar 60 w g l) (hl : l.length = 8) : (Instr.loadAt 60 (.pointer (some ⟨g, 0, none⟩))).run Tryd.prog w = .ok (.agg (l.map fun (n : Nat) => Value.int .u32 (n : Int)).toArray) w := by
  simp only [Instr.loadAt, Instr.sureAddr, Sem.run_bind, Sem.run_pure, Result.andThen]
  exact run_loadVar_row w g _ _ _ _ _ h Tryd.underlying60 rfl (Tryd.size8 l hl)
theorem Tryd.load64 {w : World} {g : Nat} {l : List Nat} (h : Dg.Ar 62 w g l) (hl : l.length = 64) : (Instr.loadAt 62 (.pointer (some ⟨g, 0, none⟩))).run Tryd.prog w = .ok (.agg (l.map fun (n : Nat) => Value.int .u32 (n : Int)).toArray) w := by
  simp only [Instr.loadAt, Instr.sureAddr, Sem.run_bind, Sem.run_pure, Result.andThen]
  exact run_loadVar_row w g _ _ _ _ _ h Tryd.underlying62 rfl (Tryd.size64 l hl)
theorem Tryd.cells8 {w : World} {g : Nat} {l : List Nat} (h : Dg.Ar 60 w g l) (hl : l.length = 8) : (loadCellsFrom ⟨g, 0, none⟩ 0 8 #[]).run Tryd.prog w = .ok (l.map fun (n : Nat) => Value.int .u32 (n : Int)).toArray w := by
  have := run_loadCells_list (P := Tryd.prog) w ⟨g, 0, none⟩ (l.map fun (n : Nat) => Value.int .u32 (n : Int)) (fun j v hv => by
    rw [Addr.add_mid, Nat.zero_add, cell_of_row _ _ _ _ _ _ h]
    simpa using hv)
  rw [List.length_map, hl] at this
  simpa [loadCells] using this
theorem Tryd.cells64 {w : World} {g : Nat} {l : List Nat} (h : Dg.Ar 62 w g l) (hl : l.length = 64) : (loadCellsFrom ⟨g, 0, none⟩ 0 64 #[]).run Tryd.prog w = .ok (l.map fun (n : Nat) => Value.int .u32 (n : Int)).toArray w := by
  have := run_loadCells_list (P := Tryd.prog) w ⟨g, 0, none⟩ (l.map fun (n : Nat) => Value.int .u32 (n : Int)) (fun j v hv => by
    rw [Addr.add_mid, Nat.zero_add, cell_of_row _ _ _ _ _ _ h]
    simpa using hv)
  rw [List.length_map, hl] at this
  simpa [loadCells] using this
theorem Tryd.over8 {w : World} {g : Nat} {l0 : List Nat} (h : Dg.Ar 60 w g l0) (h0 : l0.length = 8) (l : List Nat) (hl : l.length = 8) : (storeCells ⟨g, 0, none⟩ (l.map fun (n : Nat) => Value.int .u32 (n : Int)) 0).run Tryd.prog w = .ok () (w.setRow g (l.map fun (n : Nat) => Value.int .u32 (n : Int)).toArray) := by
  have := run_storeCells_from (P := Tryd.prog) g 60 (l.map fun (n : Nat) => Value.int .u32 (n : Int)) 0 _ w h (by simp [h0, hl]) (fun v hv => by
    simp only [List.mem_map] at hv
    obtain ⟨n, _, rfl⟩ := hv
    rfl)
  simpa using this
theorem Dg.wbytes_len (l : List Nat) : (l.flatMap wbytes).length = 4 * l.length := by
  induction l with
  | nil => rfl
  | cons a l ih => rw [List.flatMap_cons, List.length_append, ih, show (wbytes a).length = 4 from rfl, List.length_cons]; omega
theorem Dg.wbytes_cells (x : Nat) : #[Value.int .u8 ((x : Int) / 16777216 % 256), Value.int .u8 ((x : Int) / 65536 % 256), Value.int .u8 ((x : Int) / 256 % 256), Value.int .u8 ((x : Int) % 256)] = (Lib.byteCells (wbytes x)).toArray := by
  have h : ∀ n : Nat, (((UInt8.ofNat n).toNat : Nat) : Int) = (n : Int) % 256 := fun n => by rw [UInt8.toNat_ofNat']; simp
  simp only [wbytes, Lib.byteCells, List.map_cons, List.map_nil, h]
  simp
theorem Dg.flat_next (l : List Nat) (i : Nat) (h : i < l.length) : (l.take (i + 1)).flatMap wbytes = (l.take i).flatMap wbytes ++ wbytes l[i] := by
  rw [List.take_add_one, List.getElem?_eq_getElem h, List.flatMap_append]
  simp
theorem Dg.small_blk (s : S8) (m : List UInt8) : Small (blk s m).l := by
  unfold blk
  generalize rnds (rounds.zip (words m)) s = v
  intro n hn
  simp only [addS, S8.l, List.mem_cons, List.not_mem_nil, or_false] at hn
  omega
theorem Dg.blks_succ (n : Nat) (m : List UInt8) (s : S8) : blks (n + 1) m s = blks n (m.drop 64) (blk s (m.take 64)) := by
  unfold blks
  exact each64_succ blk n m s
theorem Dg.blks_next {Tn t I J : Nat} {F : List UInt8} {s : S8} (ht : t < Tn) (hJ : J = I + 64) : blks (Tn - (t + 1)) (F.drop J) (blk s ((F.drop I).take 64)) = blks (Tn - t) (F.drop I) s := by
  obtain ⟨n, hn⟩ : ∃ n, n = Tn - (t + 1) := ⟨_, rfl⟩
  have e : (F.drop I).drop 64 = F.drop J := by rw [List.drop_drop, hJ]
  have e2 := Dg.blks_succ n (F.drop I) s
  rw [e] at e2
  rw [← hn, show Tn - t = n + 1 by omega]
  exact e2.symm
theorem Dg.small_start : Small Dg.start.l := by unfold Small; decide
theorem Dg.bs_cut {w : World} {g K cap I n c : Nat} {F : List UInt8} (h : Bs w (.slice (some ⟨g, 0, none⟩) K cap) F) (hI : I + n ≤ F.length) (hc : n ≤ c) : Bs w.drew (.slice (some ⟨g, I, none⟩) n c) ((F.drop I).take n) := by
  obtain ⟨ad, cap', e, h1, h2, h3⟩ := h.ex
  have hl : ((F.drop I).take n).length = n := by rw [List.length_take, List.length_drop]; omega
  refine ⟨some ⟨g, I, none⟩, c, by rw [hl], by omega, (fun e => by cases e), ?_⟩
  rcases h3 with rfl | ⟨g', o', e', h4, h5⟩
  · exact .inl (by simp)
  · subst e'
    injection e with e1 e2 e3
    injection e1 with e1
    injection e1 with e1 e4
    subst e1 e4
    refine .inr ⟨g, I, rfl, h4, fun j u hu => ?_⟩
    have := h5 (I + j) u (by
      have hj := (List.getElem?_eq_some_iff.1 hu).1
      rw [byteCells_len, hl] at hj
      simp only [Lib.byteCells, List.getElem?_map, List.getElem?_take, List.getElem?_drop] at hu ⊢
      rw [if_pos hj] at hu
      exact hu)
    rw [Nat.zero_add] at this
    exact this
/-- What stands while the blocks are summed up. -/
structure Tryd.Lp (w : World) (sB kB : Nat) (mv : Value) (F : List UInt8) (s : S8) (wr : World) : Prop where
  s : Dg.Ar 60 wr sB s.l
  k : Dg.Ar 62 wr kB rounds
  m : Bs wr mv F
  b : Below w.heap.size w wr
end Go.Proofs
