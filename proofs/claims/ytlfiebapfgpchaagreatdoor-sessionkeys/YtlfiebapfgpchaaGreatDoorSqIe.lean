/-
  Laid together by merge.py of Ie.
-/
import Derived.Test.YtlfiebapfgpchaaGreatDoorSqId
import Derived.Test.YtlfiebapfgpchaaGreatDoorSqHg
namespace Go.Proofs
open Go.RowKit Go.Wi Go.Dg
theorem Tryz.makeLC {ops : Array Oper} {rest : List Oper} {o : Oper} {a : Act} {Q : Exit → Act → World → Prop} {w : World} (hgd : o.guard = none) (l c : Operand) (hop : o.op = Op.makeSlice 29 l c)
    (kl kc : IntKind) (L C : Int) (n m : Nat) (hl : a.eval l = .int kl L) (hc : a.eval c = .int kc C) (hL : L = (n : Int)) (hC : C = (m : Int)) (hnm : n ≤ m) (hm : m ≤ 281474976710656)
    (hK : ∀ w', Ob w' w.heap.size (.slice (some ⟨w.heap.size, 0, none⟩) n m) (List.replicate n 0) → Below w.heap.size w w' → w'.heap.size = w.heap.size + 1 → wpList Tryz.prog ops Q rest (a.put o.dst (.slice (some ⟨w.heap.size, 0, none⟩) n m)) w') : wpList Tryz.prog ops Q (o :: rest) a w := by
  obtain ⟨i0, hi0, hz0, hz1, hz2⟩ := info_parts Tryz.info8
  subst hL hC
  have hrun := run_make (P := Tryz.prog) w 29 5 i0 _ Tryz.underlying29 hi0 hz0 kl kc n m (by omega) (by omega) (by rw [hz2]; omega) (by omega)
  simp only [Int.toNat_natCast, hz1, Nat.mul_one] at hrun
  refine wpList_plain hgd fun K hK' => ?_
  unfold Oper.wp
  simp [execOp, hop, hl, hc, hrun, Result.andThen]
  refine hK' _ _ (hK _ ?_ ((Below.refl _ w).alloc (Nat.le_refl _) _) (by simp))
  have hcs : (madeCells (Value.int .u8 0).cells m).toList = List.replicate m (.int .u8 0) := by
    rw [show (Value.int .u8 0).cells = #[.int .u8 0] from rfl, toList_madeCells_one]
  have hce : ∀ j, j < m → (w.alloc (.cells (madeCells (Value.int .u8 0).cells m) 5)).cell? ⟨w.heap.size, j, none⟩ = some (.int .u8 0) := fun j hj => by
    rw [cell_of_row _ _ _ _ _ _ (heap_alloc_new w _), ← Array.getElem?_toList, hcs, List.getElem?_replicate, if_pos hj]
  refine .inr ⟨w.heap.size, m, by simp, Nat.le_refl _, by simp, by simp; exact hnm, fun j u hu => ?_, fun j hj => ⟨by rw [hce j hj]; rfl, frozen_of_row _ _ _ _ _ (heap_alloc_new w _)⟩⟩
  have hj := (List.getElem?_eq_some_iff.1 hu).1
  rw [byteCells_len, List.length_replicate] at hj
  rw [hce j (by omega), ← hu]
  simp [Lib.byteCells, hj]
/-- 'append' of some bytes to a row that has room for them. -/
theorem Tryz.room_run (ty : TypeId) {w : World} {B g C : Nat} {l : List UInt8} {n : Nat} (h : Ob w B (.slice (some ⟨g, 0, none⟩) n C) l) (hn : n = l.length) (xs : List UInt8) (k g0 : Nat) (hk : k = xs.length)
    (hnb : w.heap[g0]? = some (.cells (Lib.byteCells xs).toArray 5 (0, 0))) (hr : n + k ≤ C) :
    ∃ w1, (Builtin.append_ #[29, 29] ty #[.slice (some ⟨g, 0, none⟩) n C, .slice (some ⟨g0, 0, none⟩) k k]).run Tryz.prog w = .ok (.slice (some ⟨g, 0, none⟩) (n + k : Nat) C) w1 ∧ Ob w1 B (.slice (some ⟨g, 0, none⟩) (n + k : Nat) C) (l ++ xs) ∧ Wo (fun k => k = g) w w1 := by
  subst hk hn
  obtain ⟨i0, hi0, hz0, hz1, hz2⟩ := info_parts Tryz.info8
  have hone : ∀ u ∈ Lib.byteCells xs, u.oneCell' = true := fun u hu => by
    simp only [Lib.byteCells, List.mem_map] at hu
    obtain ⟨b, _, rfl⟩ := hu
    rfl
  have hnews : ∀ (j : Nat) u, (Lib.byteCells xs)[j]? = some u → w.cell? ((⟨g0, 0, none⟩ : Addr).add j) = some u := World.news_of_block (cs := (Lib.byteCells xs).toArray) hnb
  have h5 := h.spare
  obtain ⟨h1, h2⟩ := h.lt g rfl
  have hbl : (Lib.byteCells xs).length = xs.length := byteCells_len xs
  have hsp : ∀ j, j < (Lib.byteCells xs).length → (w.cell? ⟨g, 0 + l.length * i0.size + j, none⟩).isSome = true ∧ w.frozen? ⟨g, 0 + l.length * i0.size + j, none⟩ = false := fun j hj => by
    rw [hz1]
    exact h5 _ (by omega)
  have hrun := run_append_room_cells (P := Tryz.prog) w 29 ty 5 i0 Tryz.underlying29 hi0 g 0 l.length C ⟨g0, 0, none⟩ xs.length xs.length (Lib.byteCells xs) (by rw [hz1, byteCells_len]; omega) hnews hone hr (fun j hj => (hsp j hj).1) (fun j hj => (hsp j hj).2)
  have hwo := Dg.setCells_wo g (Lib.byteCells xs) (0 + l.length * i0.size) w
  rw [hz1, Nat.zero_add, Nat.mul_one] at hrun hwo
  refine ⟨_, hrun, .inr ⟨g, C, by rw [List.length_append], h1, Nat.lt_of_lt_of_le h2 hwo.size, by rw [List.length_append]; exact hr, fun j u hu => ?_, fun j hj => ⟨World.isSome_setCells g _ _ w _ (h5 j hj).1, by rw [World.frozen?_setCells]; exact (h5 j hj).2⟩⟩, hwo⟩
  rw [byteCells_app] at hu
  have hb1 := byteCells_len l
  by_cases hj : j < l.length
  · rw [World.cell?_setCells_out g _ _ w _ fun _ _ => .inl hj]
    rw [List.getElem?_append_left (by omega)] at hu
    have h6 := (h.cell (i := j) hj).1
    rw [h6, ← hu]
    simp [Lib.byteCells, hj]
  · rw [List.getElem?_append_right (by omega), byteCells_len] at hu
    obtain ⟨hj2, e⟩ := List.getElem?_eq_some_iff.1 hu
    have := World.cell?_setCells_in g (Lib.byteCells xs) l.length w (fun i hi => (h5 _ (by omega)).1) (j - l.length) hj2
    rw [show l.length + (j - l.length) = j by omega, e] at this
    exact this
theorem Tryz.room_wp {o : Oper} {a : Act} {K : Act → World → Prop} {Q : Exit → Act → World → Prop} (s y : Operand)
    (ho : o.op = .call { callee := .builtin .append, args := #[s, y], argTypes := #[29, 29] })
    {w : World} {B g C : Nat} {l : List UInt8} {n : Nat} (h : Ob w B (.slice (some ⟨g, 0, none⟩) n C) l) (hn : n = l.length)
    (hs : a.eval s = .slice (some ⟨g, 0, none⟩) n C) (xs : List UInt8) (k g0 : Nat) (hy : a.eval y = .slice (some ⟨g0, 0, none⟩) k k) (hk : k = xs.length) (cs : Array Value) (hcs : cs = (Lib.byteCells xs).toArray) (hnb : w.heap[g0]? = some (.cells cs 5 (0, 0))) (hr : n + k ≤ C)
    (hK : ∀ w1, Ob w1 B (.slice (some ⟨g, 0, none⟩) (n + k : Nat) C) (l ++ xs) → Wo (fun k => k = g) w w1 → K (a.put o.dst (.slice (some ⟨g, 0, none⟩) (n + k : Nat) C)) w1) : o.wp Tryz.prog a w K Q := by
  subst hcs
  obtain ⟨w1, hrun, h1, h2⟩ := Tryz.room_run o.type h hn xs k g0 hk hnb hr
  unfold Oper.wp
  simp [execOp, ho, resolve, invoke, builtin, hs, hy, hrun, Result.andThen]
  exact hK w1 h1 h2
theorem Tryz.roomN {ops : Array Oper} {rest : List Oper} {o : Oper} {a : Act} {Q : Exit → Act → World → Prop} (hgd : o.guard = none) (s y : Operand)
    (ho : o.op = .call { callee := .builtin .append, args := #[s, y], argTypes := #[29, 29] })
    {w : World} {B g C : Nat} {l : List UInt8} {n : Nat} (h : Ob w B (.slice (some ⟨g, 0, none⟩) n C) l) (hn : n = l.length)
    (hs : a.eval s = .slice (some ⟨g, 0, none⟩) n C) (xs : List UInt8) (k g0 : Nat) (hy : a.eval y = .slice (some ⟨g0, 0, none⟩) k k) (hk : k = xs.length) (cs : Array Value) (hcs : cs = (Lib.byteCells xs).toArray) (hnb : w.heap[g0]? = some (.cells cs 5 (0, 0))) (hr : n + k ≤ C)
    (hK : ∀ w1, Ob w1 B (.slice (some ⟨g, 0, none⟩) (n + k : Nat) C) (l ++ xs) → Wo (fun k => k = g) w w1 → wpList Tryz.prog ops Q rest (a.put o.dst (.slice (some ⟨g, 0, none⟩) (n + k : Nat) C)) w1) : wpList Tryz.prog ops Q (o :: rest) a w :=
  wpList_plain hgd fun _ hk' => Tryz.room_wp s y ho h hn hs xs k g0 hy hk cs hcs hnb hr fun w1 h1 h2 => hk' _ _ (hK w1 h1 h2)
theorem Tryz.roomS {ops : Array Oper} {o : Oper} {a : Act} {K : Act → World → Prop} {Q : Exit → Act → World → Prop} {E : Prop} (hgd : o.guard = none) (s y : Operand)
    (ho : o.op = .call { callee := .builtin .append, args := #[s, y], argTypes := #[29, 29] })
    {w : World} {B g C : Nat} {l : List UInt8} {n : Nat} (h : Ob w B (.slice (some ⟨g, 0, none⟩) n C) l) (hn : n = l.length)
    (hs : a.eval s = .slice (some ⟨g, 0, none⟩) n C) (xs : List UInt8) (k g0 : Nat) (hy : a.eval y = .slice (some ⟨g0, 0, none⟩) k k) (hk : k = xs.length) (cs : Array Value) (hcs : cs = (Lib.byteCells xs).toArray) (hnb : w.heap[g0]? = some (.cells cs 5 (0, 0))) (hr : n + k ≤ C)
    (hK : ∀ w1, Ob w1 B (.slice (some ⟨g, 0, none⟩) (n + k : Nat) C) (l ++ xs) → Wo (fun k => k = g) w w1 → K (a.put o.dst (.slice (some ⟨g, 0, none⟩) (n + k : Nat) C)) w1) :
    if Region.wanted o (yielded ops a.tmps) = true then Oper.wp Tryz.prog o a w K Q else E := by
  have hw : Region.wanted o (yielded ops a.tmps) = true := by simp [Region.wanted, hgd]
  rw [if_pos hw]
  exact Tryz.room_wp s y ho h hn hs xs k g0 hy hk cs hcs hnb hr hK
theorem Dg.out_len (s : S8) : (out s).length = 32 := by unfold out; rw [Dg.wbytes_len]; rfl
theorem Dg.out_at (s : S8) (i k : Nat) (hi : i < 8) (hk : k < 4) : (out s)[4 * i + k]? = some (UInt8.ofNat ((s.l[i]'hi : Nat) / 2 ^ (24 - 8 * k))) := by
  have h1 : i = 0 ∨ i = 1 ∨ i = 2 ∨ i = 3 ∨ i = 4 ∨ i = 5 ∨ i = 6 ∨ i = 7 := by omega
  have h2 : k = 0 ∨ k = 1 ∨ k = 2 ∨ k = 3 := by omega
  rcases h1 with rfl | rfl | rfl | rfl | rfl | rfl | rfl | rfl <;> rcases h2 with rfl | rfl | rfl | rfl <;> simp [out, S8.l, wbytes]
set_option maxRecDepth 20000 in
theorem Tryz.idxS (v : S8) (i : Nat) (hi : i < 8) (w : World) : (Instr.index 158 (.agg (v.l.map fun (n : Nat) => Value.int .u32 (n : Int)).toArray) (.int .i64 (i : Int))).run Tryz.prog w = .ok (.int .u32 ((v.l[i]'hi : Nat) : Int)) w := by
  have h1 : i = 0 ∨ i = 1 ∨ i = 2 ∨ i = 3 ∨ i = 4 ∨ i = 5 ∨ i = 6 ∨ i = 7 := by omega
  rcases h1 with rfl | rfl | rfl | rfl | rfl | rfl | rfl | rfl <;> rfl
end Go.Proofs
