/-
  The program's sum: one block.
-/
import Derived.Test.YtkfmfdnfjeofiaaDoorIb
namespace Go.Proofs
open Go.RowKit Go.Wi Go.Dg
theorem Tryd.sizeS (l : List Nat) (h : l.length = 8) : (Tryd.prog.info? 68).map (·.size) = some ((l.map fun (n : Nat) => Value.int .u32 (n : Int)).toArray).size := by
  have : (Tryd.prog.info? 68).map (·.size) = some 8 := by kernel_rfl
  rw [this]
  simp [h]
theorem Tryd.storeS {w : World} {g : Nat} {l0 : List Nat} (h : Dg.Ar 68 w g l0) (h0 : l0.length = 8) (l : List Nat) (hl : l.length = 8) : (Instr.storeAt 68 (.pointer (some ⟨g, 0, none⟩)) (.agg (l.map fun (n : Nat) => Value.int .u32 (n : Int)).toArray)).run Tryd.prog w = .ok () (w.setRow g (l.map fun (n : Nat) => Value.int .u32 (n : Int)).toArray) := by
  simp only [Instr.storeAt, Instr.sureAddr, Sem.run_bind, Sem.run_pure, Result.andThen]
  exact run_storeVar_row w g _ _ _ _ h (Tryd.sizeS l hl) (by simp [h0, hl]) (Dg.all_one l)
theorem Tryd.loadS {w : World} {g : Nat} {l : List Nat} (h : Dg.Ar 68 w g l) (hl : l.length = 8) : (Instr.loadAt 68 (.pointer (some ⟨g, 0, none⟩))).run Tryd.prog w = .ok (.agg (l.map fun (n : Nat) => Value.int .u32 (n : Int)).toArray) w := by
  simp only [Instr.loadAt, Instr.sureAddr, Sem.run_bind, Sem.run_pure, Result.andThen]
  exact run_loadVar_row w g _ _ _ _ _ h Tryd.underlying68 rfl (Tryd.sizeS l hl)
theorem Tryd.sizeB (l : List UInt8) (h : l.length = 64) : (Tryd.prog.info? 69).map (·.size) = some ((Lib.byteCells l).toArray).size := by
  have : (Tryd.prog.info? 69).map (·.size) = some 64 := by kernel_rfl
  rw [this]
  simp [Lib.byteCells, h]
theorem Tryd.loadB {w : World} {g : Nat} {l : List UInt8} (h : Dg.Br 69 w g l) (hl : l.length = 64) : (Instr.loadAt 69 (.pointer (some ⟨g, 0, none⟩))).run Tryd.prog w = .ok (.agg (Lib.byteCells l).toArray) w := by
  simp only [Instr.loadAt, Instr.sureAddr, Sem.run_bind, Sem.run_pure, Result.andThen]
  exact run_loadVar_row w g _ _ _ _ _ h Tryd.underlying69 rfl (Tryd.sizeB l hl)
/-- The two tables. -/
structure Tryd.Tq (w : World) : Prop where
  sz : 2 ≤ w.heap.size
  sq : ∀ i (h : i < 8), w.cell? ⟨0, i, none⟩ = some (.int .u32 ((Dg.start.l[i]'h : Nat) : Int))
  cu : ∀ i (h : i < 64), w.cell? ⟨1, i, none⟩ = some (.int .u32 ((rounds[i]'h : Nat) : Int))
theorem Tryd.Tq.keep {w w' : World} (h : Tryd.Tq w) (hs : w.heap.size ≤ w'.heap.size) (hk : ∀ k, k < 2 → w'.heap[k]? = w.heap[k]?) : Tryd.Tq w' :=
  ⟨Nat.le_trans h.sz hs, fun i hi => (World.cell?_of_block (w := w) (a := ⟨0, i, none⟩) (hk 0 (by decide))).trans (h.sq i hi), fun i hi => (World.cell?_of_block (w := w) (a := ⟨1, i, none⟩) (hk 1 (by decide))).trans (h.cu i hi)⟩
theorem Tryd.Tq.below {B : Nat} {w w' : World} (h : Tryd.Tq w) (g : Below B w w') (hB : 2 ≤ B) : Tryd.Tq w' := h.keep g.size fun k hk => g.block k (by omega)
/-- All of it while a block is stirred in. -/
structure Tryd.Sr (w0 : World) (s : List Nat) (g : Nat) (W : List Nat) (wr : World) : Prop where
  b : Below w0.heap.size w0 wr
  s : Dg.Ar 68 wr w0.heap.size s
  r : Dg.Ar 68 wr (w0.heap.size + 1 + 1) (List.replicate 8 0)
  w : Dg.Ar 62 wr g W
theorem Tryd.Sr.drewN {w0 : World} {s : List Nat} {g : Nat} {W : List Nat} {wr : World} (h : Tryd.Sr w0 s g W wr) (n : Nat) : Tryd.Sr w0 s g W (wr.drewN n) := ⟨belowN h.b n, h.s, h.r, h.w⟩
theorem Tryd.Sr.setS {w0 : World} {s : List Nat} {g : Nat} {W : List Nat} {wr : World} (h : Tryd.Sr w0 s g W wr) (hg : w0.heap.size + 1 + 1 < g) (i x : Nat) (v : Int) (hv : v = x) : Tryd.Sr w0 (s.set i x) g W (wr.setCell ⟨w0.heap.size, i, none⟩ (.int .u32 v)) := by
  subst hv
  refine ⟨h.b.setCell (p := ⟨w0.heap.size, i, none⟩) (Nat.le_refl _) _, h.s.set i x, h.r.keep ?_, h.w.keep ?_⟩ <;> exact Below.heap_setCell _ _ _ _ (by show _ ≠ w0.heap.size; omega)
theorem Dg.words_len (m : List UInt8) : (words m).length = 64 := by unfold words; rw [sched_len]; simp
theorem Dg.nxt_lt (w : List Nat) : nxt w < 4294967296 := Nat.mod_lt _ (by decide)
theorem Dg.sched_small : ∀ (n : Nat) (w : List Nat), Small w → Small (sched n w)
  | 0, _, h => h
  | n + 1, w, h => Dg.sched_small n _ fun x hx => by
    rcases List.mem_append.1 hx with h1 | h1
    · exact h x h1
    · rw [List.mem_singleton.1 h1]; exact Dg.nxt_lt w
theorem Dg.words_small (m : List UInt8) : Small (words m) := Dg.sched_small _ _ fun x hx => by
  simp only [List.mem_map] at hx
  obtain ⟨t, _, rfl⟩ := hx
  unfold wrd
  have h0 := (m.getD (4 * t) 0).toNat_lt
  have h1 := (m.getD (4 * t + 1) 0).toNat_lt
  have h2 := (m.getD (4 * t + 2) 0).toNat_lt
  have h3 := (m.getD (4 * t + 3) 0).toNat_lt
  omega
theorem Tryd.idx8 (v : S8) : ∀ (i : Nat) (hi : i < 8) (w : World), (Instr.index 60 (.agg #[.int .u32 (v.a : Int), .int .u32 (v.b : Int), .int .u32 (v.c : Int), .int .u32 (v.d : Int), .int .u32 (v.e : Int), .int .u32 (v.f : Int), .int .u32 (v.g : Int), .int .u32 (v.h : Int)]) (.int .i64 (i : Int))).run Tryd.prog w = .ok (.int .u32 ((v.l[i]'hi : Nat) : Int)) w
  | 0, _, _ => rfl
  | 1, _, _ => rfl
  | 2, _, _ => rfl
  | 3, _, _ => rfl
  | 4, _, _ => rfl
  | 5, _, _ => rfl
  | 6, _, _ => rfl
  | 7, _, _ => rfl
  | i + 8, h, _ => by omega
end Go.Proofs
