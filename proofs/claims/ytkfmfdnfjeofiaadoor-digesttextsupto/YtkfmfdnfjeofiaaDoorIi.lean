/-
  The program's sum in the making, in memory.
-/
import Derived.Test.YtkfmfdnfjeofiaaDoorIg
import Derived.Test.YtkfmfdnfjeofiaaDoorIh
namespace Go.Proofs
open Go.RowKit Go.Wi Go.Dg
theorem Dg.set_block {w : World} {g : Nat} {T : TypeId} {cs : List Value} (h : w.heap[g]? = some (.cells cs.toArray T (0, 0))) (i : Nat) (v : Value) : (w.setCell ⟨g, i, none⟩ v).heap[g]? = some (.cells (cs.set i v).toArray T (0, 0)) := by
  obtain ⟨hlt, hk⟩ := Array.getElem?_eq_some_iff.1 h
  show (w.heap.modify g _)[g]? = _
  rw [Array.getElem?_eq_getElem (by rw [Array.size_modify]; exact hlt), Array.getElem_modify_self, hk]
  simp
theorem Dg.sets_block {g : Nat} {T : TypeId} : ∀ (vs : List Value) (o : Nat) (w : World) (cs : List Value), w.heap[g]? = some (.cells cs.toArray T (0, 0)) → o + vs.length ≤ cs.length →
    (w.setCells g o vs).heap[g]? = some (.cells (cs.take o ++ vs ++ cs.drop (o + vs.length)).toArray T (0, 0))
  | [], o, w, cs, h, _ => by
    rw [List.append_nil, List.length_nil, Nat.add_zero, List.take_append_drop]
    exact h
  | v :: r, o, w, cs, h, hl => by
    rw [List.length_cons] at hl
    have h1 := Dg.sets_block r (o + 1) _ _ (Dg.set_block h o v) (by rw [List.length_set]; omega)
    have e1 : (cs.set o v).take (o + 1) = cs.take o ++ [v] := by
      rw [List.take_add_one, List.take_set_of_le (Nat.le_refl _)]
      simp [show o < cs.length by omega]
    have e2 : (cs.set o v).drop (o + 1 + r.length) = cs.drop (o + (v :: r).length) := by
      rw [List.drop_set_of_lt (by omega), List.length_cons]
      congr 1
      omega
    rw [e1, e2] at h1
    rw [List.append_assoc (cs.take o)] at h1
    exact h1
def Dg.wcells (l : List Nat) : List Value := l.map fun (n : Nat) => Value.int .u32 (n : Int)
theorem Dg.wcells_len (l : List Nat) : (Dg.wcells l).length = l.length := by simp [Dg.wcells]
/-- What lies in its block. -/
def Dg.hcells (s : S8) (R : List UInt8) (c : Nat) : List Value := Dg.wcells s.l ++ (Lib.byteCells R ++ [.int .u64 (c : Int)])
structure Tryd.Hsh (w : World) (g : Nat) (s : S8) (R : List UInt8) (c : Nat) : Prop where
  m : w.heap[g]? = some (.cells (Dg.hcells s R c).toArray 71 (0, 0))
  r : R.length = 64
theorem Tryd.Hsh.len {w : World} {g : Nat} {s : S8} {R : List UInt8} {c : Nat} (h : Tryd.Hsh w g s R c) : (Dg.hcells s R c).length = 73 := by
  have := h.r
  simp only [Dg.hcells, List.length_append, Dg.wcells_len, byteCells_len, List.length_cons, List.length_nil]
  rw [this]
  rfl
theorem Tryd.Hsh.lt {w : World} {g : Nat} {s : S8} {R : List UInt8} {c : Nat} (h : Tryd.Hsh w g s R c) : g < w.heap.size := block_lt h.m
theorem Tryd.Hsh.keep {w w' : World} {g : Nat} {s : S8} {R : List UInt8} {c : Nat} (h : Tryd.Hsh w g s R c) (e : w'.heap[g]? = w.heap[g]?) : Tryd.Hsh w' g s R c := ⟨e.trans h.m, h.r⟩
theorem Tryd.Hsh.at {w : World} {g : Nat} {s : S8} {R : List UInt8} {c : Nat} (h : Tryd.Hsh w g s R c) (i : Nat) : w.cell? ⟨g, i, none⟩ = (Dg.hcells s R c)[i]? := by
  rw [cell_of_row _ _ _ _ _ _ h.m]
  simp
theorem Tryd.Hsh.frozen {w : World} {g : Nat} {s : S8} {R : List UInt8} {c : Nat} (h : Tryd.Hsh w g s R c) (i : Nat) : w.frozen? ⟨g, i, none⟩ = false := by
  simp [World.frozen?, h.m]
theorem Tryd.Hsh.there {w : World} {g : Nat} {s : S8} {R : List UInt8} {c : Nat} (h : Tryd.Hsh w g s R c) {o n : Nat} (hn : o + n ≤ 73) : w.there g o n := fun j hj => by
  refine ⟨?_, h.frozen _⟩
  have := h.len
  rw [h.at, List.getElem?_eq_getElem (by omega)]
  rfl
theorem Tryd.Hsh.st {w : World} {g : Nat} {s : S8} {R : List UInt8} {c : Nat} (h : Tryd.Hsh w g s R c) : w.rangeAt g 0 (Dg.wcells s.l) := fun j v hv => by
  have hj := (List.getElem?_eq_some_iff.1 hv).1
  rw [h.at, Nat.zero_add, Dg.hcells, List.getElem?_append_left hj]
  exact hv
theorem Tryd.Hsh.rs {w : World} {g : Nat} {s : S8} {R : List UInt8} {c : Nat} (h : Tryd.Hsh w g s R c) : w.rangeAt g 8 (Lib.byteCells R) := fun j v hv => by
  have hj := (List.getElem?_eq_some_iff.1 hv).1
  have h8 : (Dg.wcells s.l).length = 8 := by rw [Dg.wcells_len]; rfl
  rw [h.at, Dg.hcells, List.getElem?_append_right (by omega), h8, show 8 + j - 8 = j by omega, List.getElem?_append_left hj]
  exact hv
theorem Tryd.Hsh.ct {w : World} {g : Nat} {s : S8} {R : List UInt8} {c : Nat} (h : Tryd.Hsh w g s R c) : w.cell? ⟨g, 72, none⟩ = some (.int .u64 (c : Int)) := by
  have h8 : (Dg.wcells s.l).length = 8 := by rw [Dg.wcells_len]; rfl
  have hr := h.r
  rw [h.at, Dg.hcells, List.getElem?_append_right (by omega), h8, List.getElem?_append_right (by rw [byteCells_len]; omega), byteCells_len, hr]
  rfl
theorem Tryd.Hsh.setC {w : World} {g : Nat} {s : S8} {R : List UInt8} {c : Nat} (h : Tryd.Hsh w g s R c) (z : Int) (c' : Nat) (hz : z = c') : Tryd.Hsh (w.setCell ⟨g, 72, none⟩ (.int .u64 z)) g s R c' := by
  subst hz
  refine ⟨?_, h.r⟩
  rw [Dg.set_block h.m]
  have h8 : (Dg.wcells s.l).length = 8 := by rw [Dg.wcells_len]; rfl
  have hr := h.r
  congr 3
  rw [Dg.hcells, List.set_append_right _ _ (by omega), h8, List.set_append_right _ _ (by rw [byteCells_len]; omega), byteCells_len, hr]
  rfl
theorem Tryd.Hsh.setS {w : World} {g : Nat} {s : S8} {R : List UInt8} {c : Nat} (h : Tryd.Hsh w g s R c) (s' : S8) : Tryd.Hsh (w.setCells g 0 (Dg.wcells s'.l)) g s' R c := by
  refine ⟨?_, h.r⟩
  have h8 : (Dg.wcells s.l).length = 8 := by rw [Dg.wcells_len]; rfl
  have h8' : (Dg.wcells s'.l).length = 8 := by rw [Dg.wcells_len]; rfl
  have h1 := Dg.sets_block (T := 71) (Dg.wcells s'.l) 0 w _ h.m (by rw [h.len, h8']; omega)
  rw [h1, List.take_zero, List.nil_append, h8', Nat.zero_add, Dg.hcells, List.drop_append_of_le_length (by omega), List.drop_of_length_le (by omega), List.nil_append]
  rfl
theorem Tryd.Hsh.setR {w : World} {g : Nat} {s : S8} {R : List UInt8} {c : Nat} (h : Tryd.Hsh w g s R c) (o : Nat) (xs : List UInt8) (ho : o + xs.length ≤ 64) : Tryd.Hsh (w.setCells g (8 + o) (Lib.byteCells xs)) g s (R.take o ++ xs ++ R.drop (o + xs.length)) c := by
  have hr := h.r
  refine ⟨?_, by simp only [List.length_append, List.length_take, List.length_drop]; omega⟩
  have h8 : (Dg.wcells s.l).length = 8 := by rw [Dg.wcells_len]; rfl
  have hb := byteCells_len xs
  have hbR := byteCells_len R
  have h1 := Dg.sets_block (T := 71) (Lib.byteCells xs) (8 + o) w _ h.m (by rw [h.len]; omega)
  rw [h1]
  congr 3
  have e1 : (Dg.hcells s R c).take (8 + o) = Dg.wcells s.l ++ Lib.byteCells (R.take o) := by
    rw [Dg.hcells, ← h8, List.take_append, List.take_of_length_le (by omega), show (Dg.wcells s.l).length + o - (Dg.wcells s.l).length = o by omega, List.take_append_of_le_length (by omega)]
    simp [Lib.byteCells, List.map_take]
  have e2 : (Dg.hcells s R c).drop (8 + o + (Lib.byteCells xs).length) = Lib.byteCells (R.drop (o + xs.length)) ++ [.int .u64 (c : Int)] := by
    rw [Dg.hcells, hb, ← h8, List.drop_append, List.drop_of_length_le (by omega), show (Dg.wcells s.l).length + o + xs.length - (Dg.wcells s.l).length = o + xs.length by omega, List.nil_append, List.drop_append_of_le_length (by omega)]
    simp [Lib.byteCells, List.map_drop]
  rw [e1, e2, Dg.hcells, byteCells_app, byteCells_app]
  simp only [List.append_assoc]
theorem Tryd.sizeSt : (Tryd.prog.info? 68).map (·.size) = some 8 := by kernel_rfl
theorem Tryd.size64b : (Tryd.prog.info? 69).map (·.size) = some 64 := by kernel_rfl
theorem Tryd.Hsh.loadS {w : World} {g : Nat} {s : S8} {R : List UInt8} {c : Nat} (h : Tryd.Hsh w g s R c) : (Instr.loadAt 68 (.pointer (some ⟨g, 0, none⟩))).run Tryd.prog w = .ok (.agg (Dg.wcells s.l).toArray) w :=
  run_loadAt_mid w g 0 68 (Dg.wcells s.l) _ h.st Tryd.underlying68 rfl Tryd.sizeSt
theorem Tryd.Hsh.loadR {w : World} {g : Nat} {s : S8} {R : List UInt8} {c : Nat} (h : Tryd.Hsh w g s R c) : (Instr.loadAt 69 (.pointer (some ⟨g, 8, none⟩))).run Tryd.prog w = .ok (.agg (Lib.byteCells R).toArray) w :=
  run_loadAt_mid w g 8 69 (Lib.byteCells R) _ h.rs Tryd.underlying69 rfl (by rw [byteCells_len, h.r]; exact Tryd.size64b)
theorem Tryd.Hsh.storeS {w : World} {g : Nat} {s : S8} {R : List UInt8} {c : Nat} (h : Tryd.Hsh w g s R c) (s' : S8) : (Instr.storeAt 68 (.pointer (some ⟨g, 0, none⟩)) (.agg (Dg.wcells s'.l).toArray)).run Tryd.prog w = .ok () (w.setCells g 0 (Dg.wcells s'.l)) := by
  have := run_storeAt_mid (P := Tryd.prog) w g 0 68 (Dg.wcells s'.l).toArray (h.there (by show 0 + 8 ≤ 73; omega)) Tryd.sizeSt (Dg.all_one s'.l)
  exact this
theorem Tryd.Hsh.cellsS {w : World} {g : Nat} {s : S8} {R : List UInt8} {c : Nat} (h : Tryd.Hsh w g s R c) (s' : S8) : (storeCells ⟨g, 0, none⟩ (Dg.wcells s'.l) 0).run Tryd.prog w = .ok () (w.setCells g 0 (Dg.wcells s'.l)) := by
  have ht := h.there (o := 0) (n := 8) (by omega)
  have l8 : (Dg.wcells s'.l).length = 8 := by rw [Dg.wcells_len]; rfl
  exact run_storeCells_cells (P := Tryd.prog) g 0 (Dg.wcells s'.l) 0 w (fun j hj => by simpa using (ht j (by omega)).1) (fun j hj => by simpa using (ht j (by omega)).2) (fun v hv => by
    simp only [Dg.wcells, List.mem_map] at hv
    obtain ⟨n, _, rfl⟩ := hv
    rfl)
/-- What was added so far. -/
structure Dg.Sofar (s : S8) (R : List UInt8) (l : List UInt8) : Prop where
  small : Small s.l
  s : s = blks (l.length / 64) l Dg.start
  r : R.take (l.length % 64) = l.drop (64 * (l.length / 64))
theorem Dg.each_zero {α : Type} (f : α → List UInt8 → α) (m : List UInt8) (s : α) : each64 f 0 m s = s := rfl
theorem Dg.each_take {α : Type} (f : α → List UInt8 → α) : ∀ (n : Nat) (l r : List UInt8) (s : α), 64 * n ≤ l.length → each64 f n (l ++ r) s = each64 f n l s
  | 0, _, _, _, _ => rfl
  | n + 1, l, r, s, h => by
    rw [each64_succ, each64_succ, List.drop_append_of_le_length (by omega), List.take_append_of_le_length (by omega), Dg.each_take f n _ r _ (by rw [List.length_drop]; omega)]
theorem Dg.each_add {α : Type} (f : α → List UInt8 → α) : ∀ (n m : Nat) (l : List UInt8) (s : α), each64 f (n + m) l s = each64 f m (l.drop (64 * n)) (each64 f n l s)
  | 0, m, l, s => by rw [Nat.zero_add, Nat.mul_zero, List.drop_zero]; rfl
  | n + 1, m, l, s => by
    rw [show n + 1 + m = (n + m) + 1 by omega, each64_succ, Dg.each_add f n m, each64_succ, List.drop_drop, show 64 + 64 * n = 64 * (n + 1) by omega]
theorem Dg.blks_take (n : Nat) (l r : List UInt8) (s : S8) (h : 64 * n ≤ l.length) : blks n (l ++ r) s = blks n l s := Dg.each_take blk n l r s h
theorem Dg.blks_one (n : Nat) (l m : List UInt8) (s : S8) (h : l.length = 64 * n) (hm : m.length = 64) : blks (n + 1) (l ++ m) s = blk (blks n l s) m := by
  unfold blks
  rw [Dg.each_add, ← h, List.drop_left, Dg.each_take blk n l m s (by omega)]
  rw [each64_succ blk 0, Dg.each_zero, List.take_of_length_le (by omega)]
end Go.Proofs
