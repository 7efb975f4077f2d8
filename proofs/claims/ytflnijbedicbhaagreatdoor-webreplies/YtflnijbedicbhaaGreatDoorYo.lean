/-
  A row of bytes of one's own, which began as a text's bytes: 'append' of texts and of bytes.
-/
import Derived.Test.YtflnijbedicbhaaGreatDoorYn
import Derived.Lib.AppendStr
import Derived.ArgAppend
namespace Go.Wb
open Go.RowKit Go.Proofs Go.Wi
/-- A row of bytes of one's own, above a floor. -/
def Og (w : World) (B : Nat) (V : Value) (l : List UInt8) : Prop :=
  ∃ g cap, V = .slice (some ⟨g, 0, none⟩) l.length cap ∧ B ≤ g ∧ g < w.heap.size ∧ l.length ≤ cap ∧ (∀ j u, (Lib.byteCells l)[j]? = some u → w.cell? ⟨g, j, none⟩ = some u) ∧ ∀ j, j < cap → (w.cell? ⟨g, j, none⟩).isSome = true ∧ w.frozen? ⟨g, j, none⟩ = false
theorem Og.lt {w : World} {B : Nat} {V : Value} {l : List UInt8} (h : Og w B V l) : ∀ k, V.ownBlock = some k → B ≤ k ∧ k < w.heap.size := by
  obtain ⟨g, cap, rfl, h1, h2, _⟩ := h
  intro k e; cases e; exact ⟨h1, h2⟩
theorem Og.keep {w w' : World} {B : Nat} {V : Value} {l : List UInt8} (h : Og w B V l) (hk : ∀ k, V.ownBlock = some k → w'.heap[k]? = w.heap[k]?) : Og w' B V l := by
  obtain ⟨g, cap, rfl, h1, h2, h3, h4, h5⟩ := h
  have e := hk g rfl
  have e2 : g < w'.heap.size := by
    rw [Array.getElem?_eq_getElem h2] at e
    exact block_lt e
  exact ⟨g, cap, rfl, h1, e2, h3, fun j u hu => (World.cell?_of_block (a := ⟨g, j, none⟩) e).trans (h4 j u hu), fun j hj => ⟨by rw [World.cell?_of_block (a := ⟨g, j, none⟩) e]; exact (h5 j hj).1, (World.frozen?_of_block (a := ⟨g, j, none⟩) e).trans (h5 j hj).2⟩⟩
theorem Og.below {w w' : World} {B C : Nat} {V : Value} {l : List UInt8} (h : Og w B V l) (g : Below C w w') (hC : w.heap.size ≤ C) : Og w' B V l := h.keep fun k e => g.block k (Nat.lt_of_lt_of_le (h.lt k e).2 hC)
theorem Og.bs {w : World} {B : Nat} {V : Value} {l : List UInt8} (h : Og w B V l) : Bs w V l := by
  obtain ⟨g, cap, rfl, h1, h2, h3, h4, h5⟩ := h
  exact ⟨some ⟨g, 0, none⟩, cap, rfl, h3, (fun e => by cases e), .inr ⟨g, 0, rfl, h2, fun j u hu => by rw [Nat.zero_add]; exact h4 j u hu⟩⟩
theorem Og.made {w : World} {B cap : Nat} {e : TypeId} {l : List UInt8} (hB : B ≤ w.heap.size) (cur : Array Value) (hs : cur.size = cap) (hl : l.length ≤ cap) (hc : ∀ (j : Nat) (u : Value), (Lib.byteCells l)[j]? = some u → cur[j]? = some u) : Og (w.alloc (.cells cur e)) B (.slice (some ⟨w.heap.size, 0, none⟩) l.length cap) l := by
  have hn : (w.alloc (.cells cur e)).heap[w.heap.size]? = some (.cells cur e (0, 0)) := heap_alloc_new w _
  refine ⟨w.heap.size, cap, rfl, hB, by simp, hl, fun j u hu => ?_, fun j hj => ⟨?_, frozen_of_row _ _ _ _ _ hn⟩⟩
  · rw [cell_of_row _ _ _ _ _ _ hn]; exact hc j u hu
  · rw [cell_of_row _ _ _ _ _ _ hn, Array.getElem?_eq_getElem (by omega)]; rfl
theorem Og.start (w : World) (e : TypeId) (t : ByteArray) {B : Nat} (hB : B ≤ w.heap.size) : Og (Lib.bytesWorld w e t) B (.slice (some ⟨w.heap.size, 0, none⟩) t.size (grownCap w t.size 0 e)) t.data.toList := by
  have hn := Lib.bytesWorld_at_new w e t
  have hs : (Lib.bytesCells w e t).size = grownCap w t.size 0 e := by
    have := grownCap_ge w t.size 0 e
    simp only [Lib.bytesCells, Array.size_append, Array.size_map, Array.size_replicate]
    show t.size + _ = _
    omega
  refine ⟨w.heap.size, _, rfl, hB, by rw [Lib.bytesWorld_size]; omega, grownCap_ge w t.size 0 e, fun j u hu => ?_, fun j hj => ⟨?_, ?_⟩⟩
  · have hj : j < t.size := by
      have := (List.getElem?_eq_some_iff.1 hu).1
      rw [byteCells_len] at this
      exact this
    have hj2 : j < t.data.toList.length := hj
    rw [Lib.bytesWorld_cell w e t j hj, ← hu]
    simp [Lib.byteCells, List.getElem?_eq_getElem hj2]
  · rw [cell_of_row _ _ _ _ _ _ hn, Array.getElem?_eq_getElem (by omega)]; rfl
  · simp [World.frozen?, hn]
    omega
theorem setCells_wo (g : Nat) : ∀ (vs : List Value) (o : Nat) (w : World), Wo (fun k => k = g) w (w.setCells g o vs)
  | [], _, w => Wo.refl _ w
  | v :: r, o, w => ((Wo.refl (fun k => k = g) w).setCell g o v (.inl rfl)).trans (setCells_wo g r (o + 1) _)
theorem Og.put {w : World} {B g cap : Nat} {l : List UInt8} (xs : List UInt8) (h1 : B ≤ g) (h2 : g < w.heap.size) (hr : l.length + xs.length ≤ cap) (h4 : ∀ j u, (Lib.byteCells l)[j]? = some u → w.cell? ⟨g, j, none⟩ = some u) (h5 : ∀ j, j < cap → (w.cell? ⟨g, j, none⟩).isSome = true ∧ w.frozen? ⟨g, j, none⟩ = false) :
    Og (w.setCells g l.length (Lib.byteCells xs)) B (.slice (some ⟨g, 0, none⟩) (l ++ xs).length cap) (l ++ xs) := by
  have hwo := setCells_wo g (Lib.byteCells xs) l.length w
  have hbl : (Lib.byteCells xs).length = xs.length := byteCells_len xs
  refine ⟨g, cap, rfl, h1, Nat.lt_of_lt_of_le h2 hwo.size, by rw [List.length_append]; exact hr, fun j u hu => ?_, fun j hj => ⟨World.isSome_setCells g _ _ w _ (h5 j hj).1, by rw [World.frozen?_setCells]; exact (h5 j hj).2⟩⟩
  rw [byteCells_app] at hu
  have hb1 := byteCells_len l
  by_cases hj : j < l.length
  · rw [World.cell?_setCells_out g _ _ w _ fun _ _ => .inl hj]
    rw [List.getElem?_append_left (by omega)] at hu
    exact h4 j u hu
  · rw [List.getElem?_append_right (by omega), byteCells_len] at hu
    obtain ⟨hj2, e⟩ := List.getElem?_eq_some_iff.1 hu
    have := World.cell?_setCells_in g (Lib.byteCells xs) l.length w (fun i hi => (h5 _ (by omega)).1) (j - l.length) hj2
    rw [show l.length + (j - l.length) = j by omega, e] at this
    exact this
theorem byte_str (t : List UInt8) : Lib.strCells ⟨t.toArray⟩ = Lib.byteCells t := by simp [Lib.strCells, Lib.byteCells]
end Go.Wb
namespace Go.Proofs
open Go.RowKit Go.Wi Go.Wb
set_option maxRecDepth 20000 in
/-- 'append' of a text. -/
theorem Tryz.app_text (ty : TypeId) {w : World} {B : Nat} {V : Value} {l : List UInt8} (h : Og w B V l) (hB : B ≤ w.heap.size) (t : List UInt8) (hlen : l.length + t.length ≤ 140737488355328) :
    ∃ V' w1, (Builtin.append_ #[26, 9] ty #[V, .string ⟨t.toArray⟩]).run Tryz.prog w = .ok V' w1 ∧ Og w1 B V' (l ++ t) ∧ Below B w w1 := by
  obtain ⟨i0, hi0, hz0, hz1, hz2⟩ := info_parts Tryz.info_u8
  have hsz := text_size t
  have hla : (l ++ t).length = l.length + t.length := List.length_append
  obtain ⟨g, cap, rfl, h1, h2, h3, h4, h5⟩ := h
  by_cases hr : l.length + t.length ≤ cap
  · have hbl : (Lib.strCells ⟨t.toArray⟩).length = t.length := by rw [Lib.strCells_length, hsz]
    have hst := run_storeCells_cells (P := Tryz.prog) g l.length (Lib.strCells ⟨t.toArray⟩) 0 w (fun j hj => (h5 _ (by omega)).1) (fun j hj => (h5 _ (by omega)).2) (Lib.strCells_oneCell _)
    have hf := Lib.run_firstCells_string (P := Tryz.prog) w 1 ⟨t.toArray⟩
    rw [hsz] at hf
    simp only [Nat.add_zero] at hst
    have hrun : (Builtin.append_ #[26, 9] ty #[.slice (some ⟨g, 0, none⟩) l.length cap, .string ⟨t.toArray⟩]).run Tryz.prog w = .ok (.slice (some ⟨g, 0, none⟩) (l.length + t.length) cap) (w.setCells g l.length (Lib.strCells ⟨t.toArray⟩)) := by
      simp [Builtin.append_, run_underlying Tryz.underlying26, run_underlying Tryz.underlying9, sizeOf, typeInfo, hi0, hz1, Builtin.lenOf, hsz, hr, hf, Addr.add_lit, hst]
    refine ⟨_, _, hrun, ?_, ?_⟩
    · rw [byte_str, ← hla]
      exact Og.put t h1 h2 hr h4 h5
    · have hwo := setCells_wo g (Lib.strCells ⟨t.toArray⟩) l.length w
      exact Wo.toBelow (Below.refl B w) hwo (fun k e => by rw [e]; exact h1) hB
  · have hg := Lib.run_append_grow_string (P := Tryz.prog) w 26 9 ty 5 i0 _ Tryz.underlying26 Tryz.underlying9 hi0 hz0 ⟨g, 0, none⟩ l.length cap (Lib.byteCells l) (by rw [byteCells_len, hz1, Nat.mul_one]) (fun j u hu => by rw [add_at]; exact h4 j u hu) ⟨t.toArray⟩ (by rw [hsz]; omega) (by rw [hsz]; omega) (growslice_fits (by rw [hsz]; omega) (by rw [hsz, hz2]; omega))
    refine ⟨_, _, hg, ?_, ((Below.refl _ w).drew).alloc hB _⟩
    rw [hsz, byte_str, ← hla]
    have hge := grownCap_ge w (l ++ t).length cap 5
    refine Og.made (w := w.drew) hB _ ?_ hge ?_
    · rw [Array.size_append, Array.size_append, size_zeroCells]
      show (Lib.byteCells l).length + (Lib.byteCells t).length + _ * 1 = _
      rw [byteCells_len, byteCells_len]
      omega
    · intro j u hu
      have hj := (List.getElem?_eq_some_iff.1 hu).1
      rw [byteCells_app] at hu hj
      rw [Array.getElem?_append_left (by simpa using hj), ← hu]
      simp
set_option maxRecDepth 20000 in
/-- 'append' of bytes. -/
theorem Tryz.app_bytes (ty : TypeId) {w : World} {B : Nat} {V Y : Value} {l t : List UInt8} (h : Og w B V l) (hB : B ≤ w.heap.size) (hY : Bs w Y t) (hlen : l.length + t.length ≤ 140737488355328) :
    ∃ V' w1, (Builtin.append_ #[26, 26] ty #[V, Y]).run Tryz.prog w = .ok V' w1 ∧ Og w1 B V' (l ++ t) ∧ Below B w w1 := by
  obtain ⟨i0, hi0, hz0, hz1, hz2⟩ := info_parts Tryz.info_u8
  have hla : (l ++ t).length = l.length + t.length := List.length_append
  obtain ⟨ad, c, rfl, hc, hn, hx⟩ := hY.ex
  clear hY
  obtain ⟨g, cap, rfl, h1, h2, h3, h4, h5⟩ := h
  cases ad with
  | none =>
    have hc0 := hn rfl
    have ht : t = [] := List.eq_nil_of_length_eq_zero (by omega)
    subst ht hc0
    refine ⟨.slice (some ⟨g, 0, none⟩) l.length cap, w, ?_, ?_, Below.refl _ _⟩
    · simp [Builtin.append_, run_underlying Tryz.underlying26, sizeOf, typeInfo, hi0, Builtin.lenOf, Builtin.firstCells, h3, storeCells]
    · rw [List.append_nil]
      exact ⟨g, cap, rfl, h1, h2, h3, h4, h5⟩
  | some a =>
    have hnews : ∀ (j : Nat) u, (Lib.byteCells t)[j]? = some u → w.cell? (a.add j) = some u := by
      intro j u hu
      rcases hx with rfl | ⟨g2, o2, e, hg2, hcell⟩
      · simp [Lib.byteCells] at hu
      · injection e with e
        subst e
        rw [Addr.add_mid]
        exact hcell j u hu
    have hone : ∀ u ∈ Lib.byteCells t, u.oneCell' = true := fun u hu => by
      simp only [Lib.byteCells, List.mem_map] at hu
      obtain ⟨b, _, rfl⟩ := hu
      rfl
    have hbl := byteCells_len t
    by_cases hr : l.length + t.length ≤ cap
    · have hsp : ∀ j, j < (Lib.byteCells t).length → (w.cell? ⟨g, 0 + l.length * i0.size + j, none⟩).isSome = true ∧ w.frozen? ⟨g, 0 + l.length * i0.size + j, none⟩ = false := fun j hj => by
        rw [hz1]
        exact h5 _ (by omega)
      have hrun := run_append_room_cells (P := Tryz.prog) w 26 ty 5 i0 Tryz.underlying26 hi0 g 0 l.length cap a t.length c (Lib.byteCells t) (by rw [hz1, byteCells_len]; omega) hnews hone hr (fun j hj => (hsp j hj).1) (fun j hj => (hsp j hj).2)
      rw [hz1, Nat.zero_add, Nat.mul_one] at hrun
      refine ⟨_, _, hrun, ?_, Wo.toBelow (Below.refl B w) (setCells_wo g (Lib.byteCells t) l.length w) (fun k e => by rw [e]; exact h1) hB⟩
      rw [← hla]
      exact Og.put t h1 h2 hr h4 h5
    · obtain ⟨v', w', hrun, r1, r2⟩ := run_append_arg_grows (P := Tryz.prog) w 26 ty 5 i0 _ 1 1 Tryz.underlying26 hi0 hz0 hz1 hz2 rfl (by omega) ⟨g, 0, none⟩ l.length cap (Lib.byteCells l) (by rw [byteCells_len]; omega) (fun j u hj => by rw [Addr.add_mid, Nat.zero_add]; exact h4 j u hj) a t.length c (Lib.byteCells t) (by rw [byteCells_len]; omega) hnews (by omega) (by unfold maxLen; omega) (by omega)
      refine ⟨v', w', hrun, ?_, Wo.toBelow (own := fun _ => False) (Below.refl B w) ((Wo.refl _ w).grown r2 fun k e => by cases e) (fun k e => by cases e) hB⟩
      rw [← byteCells_app] at r1
      have hl2 := r1.1
      rcases r1.2 with ⟨_, e0⟩ | ⟨g3, cap3, cur, rfl, hB3, hg3, h6, h7, h8, h9⟩
      · omega
      · rw [← hla] at *
        refine ⟨g3, cap3, rfl, Nat.le_trans hB hB3, block_lt hg3, h6, fun j u hu => ?_, fun j hj => ⟨?_, frozen_of_row _ _ _ _ _ hg3⟩⟩
        · rw [cell_of_row _ _ _ _ _ _ hg3]
          rw [← h9, List.getElem?_take] at hu
          split at hu
          · rw [← Array.getElem?_toList]; exact hu
          · cases hu
        · rw [cell_of_row _ _ _ _ _ _ hg3, Array.getElem?_eq_getElem (by omega)]; rfl
theorem Tryz.wl_text {ops : Array Oper} {rest : List Oper} {o : Oper} {a : Act} {Q : Exit → Act → World → Prop} (hgd : o.guard = none) (s y : Operand) (ho : o.op = .call { callee := .builtin .append, args := #[s, y], argTypes := #[26, 9] })
    {w : World} {B : Nat} {V : Value} {l : List UInt8} (h : Og w B V l) (hB : B ≤ w.heap.size) (hs : a.eval s = V) (t : List UInt8) (hy : a.eval y = .string ⟨t.toArray⟩) (hlen : l.length + t.length ≤ 140737488355328)
    (hK : ∀ V' w1, Og w1 B V' (l ++ t) → Below B w w1 → wpList Tryz.prog ops Q rest (a.put o.dst V') w1) : wpList Tryz.prog ops Q (o :: rest) a w := by
  obtain ⟨V', w1, hr, h1, h2⟩ := Tryz.app_text o.type h hB t hlen
  exact Lib.wpList_append_run w hgd s y _ _ ho _ _ hs hy _ _ hr (hK V' w1 h1 h2)
theorem Tryz.wl_bytes {ops : Array Oper} {rest : List Oper} {o : Oper} {a : Act} {Q : Exit → Act → World → Prop} (hgd : o.guard = none) (s y : Operand) (ho : o.op = .call { callee := .builtin .append, args := #[s, y], argTypes := #[26, 26] })
    {w : World} {B : Nat} {V Y : Value} {l t : List UInt8} (h : Og w B V l) (hB : B ≤ w.heap.size) (hs : a.eval s = V) (hY : Bs w Y t) (hy : a.eval y = Y) (hlen : l.length + t.length ≤ 140737488355328)
    (hK : ∀ V' w1, Og w1 B V' (l ++ t) → Below B w w1 → wpList Tryz.prog ops Q rest (a.put o.dst V') w1) : wpList Tryz.prog ops Q (o :: rest) a w := by
  obtain ⟨V', w1, hr, h1, h2⟩ := Tryz.app_bytes o.type h hB hY hlen
  exact Lib.wpList_append_run w hgd s y _ _ ho _ _ hs hy _ _ hr (hK V' w1 h1 h2)
end Go.Proofs
