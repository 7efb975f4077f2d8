/-
  Laid together by packg.py of Yo Yp Yq Yr Zd Zh.
-/
import Derived.Test.YtflnijbedicbhaaGreatDoorYn
import Derived.Test.YtflnijbedicbhaaGreatDoorYh
import Derived.Test.YtflnijbedicbhaaGreatDoorPwZ
import Derived.Lib.AppendStr
import Derived.ArgAppend
import Derived.Deep.RegionHeld3
import Derived.Lib.ItoaLen
import Derived.Lib.AppendIntMem
import Derived.Lib.SmallJoins
namespace Go.Wb
open Go.RowKit Go.Proofs Go.Wi
/-- A row of bytes of one's own, above a floor. -/
def Og (w : World) (B : Nat) (V : Value) (l : List UInt8) : Prop :=
  ∃ g cap, V = .slice (some ⟨g, 0, none⟩) l.length cap ∧ B ≤ g ∧ g < w.heap.size ∧ l.length ≤ cap ∧ (∀ j u, (Lib.byteCells l)[j]? = some u → w.cell? ⟨g, j, none⟩ = some u) ∧ ∀ j, j < cap → (w.cell? ⟨g, j, none⟩).isSome = true ∧ w.frozen? ⟨g, j, none⟩ = false
theorem Og.lt {w : World} {B : Nat} {V : Value} {l : List UInt8} (h : Og w B V l) : ∀ k, V.ownBlock = some k → B ≤ k ∧ k < w.heap.size := by
  obtain ⟨g, cap, rfl, h1, h2, _⟩ := h
  intro k e; cases e; exact ⟨h1, h2⟩
theorem Og.keep {w w' : World} {B : Nat} {V : Value} {l : List UInt8} (h : Og w B V l) (hk : ∀ k, V.ownBlock = some k → w'.heap[k]? = w.heap[k]?) : Og w' B V l := by
  obtain ⟨g, cap, rfl, h1, h2, h3, h4, h5⟩ := h
  have e := hk g rfl
  have e2 : g < w'.heap.size := by
    rw [Array.getElem?_eq_getElem h2] at e
    exact block_lt e
  exact ⟨g, cap, rfl, h1, e2, h3, fun j u hu => (World.cell?_of_block (a := ⟨g, j, none⟩) e).trans (h4 j u hu), fun j hj => ⟨by rw [World.cell?_of_block (a := ⟨g, j, none⟩) e]; exact (h5 j hj).1, (World.frozen?_of_block (a := ⟨g, j, none⟩) e).trans (h5 j hj).2⟩⟩
theorem Og.below {w w' : World} {B C : Nat} {V : Value} {l : List UInt8} (h : Og w B V l) (g : Below C w w') (hC : w.heap.size ≤ C) : Og w' B V l := h.keep fun k e => g.block k (Nat.lt_of_lt_of_le (h.lt k e).2 hC)
theorem Og.bs {w : World} {B : Nat} {V : Value} {l : List UInt8} (h : Og w B V l) : Bs w V l := by
  obtain ⟨g, cap, rfl, h1, h2, h3, h4, h5⟩ := h
  exact ⟨some ⟨g, 0, none⟩, cap, rfl, h3, (fun e => by cases e), .inr ⟨g, 0, rfl, h2, fun j u hu => by rw [Nat.zero_add]; exact h4 j u hu⟩⟩
theorem Og.made {w : World} {B cap : Nat} {e : TypeId} {l : List UInt8} (hB : B ≤ w.heap.size) (cur : Array Value) (hs : cur.size = cap) (hl : l.length ≤ cap) (hc : ∀ (j : Nat) (u : Value), (Lib.byteCells l)[j]? = some u → cur[j]? = some u) : Og (w.alloc (.cells cur e)) B (.slice (some ⟨w.heap.size, 0, none⟩) l.length cap) l := by
  have hn : (w.alloc (.cells cur e)).heap[w.heap.size]? = some (.cells cur e (0, 0)) := heap_alloc_new w _
  refine ⟨w.heap.size, cap, rfl, hB, by simp, hl, fun j u hu => ?_, fun j hj => ⟨?_, frozen_of_row _ _ _ _ _ hn⟩⟩
  · rw [cell_of_row _ _ _ _ _ _ hn]; exact hc j u hu
  · rw [cell_of_row _ _ _ _ _ _ hn, Array.getElem?_eq_getElem (by omega)]; rfl
theorem Og.start (w : World) (e : TypeId) (t : ByteArray) {B : Nat} (hB : B ≤ w.heap.size) : Og (Lib.bytesWorld w e t) B (.slice (some ⟨w.heap.size, 0, none⟩) t.size (grownCap w t.size 0 e)) t.data.toList := by
  have hn := Lib.bytesWorld_at_new w e t
  have hs : (Lib.bytesCells w e t).size = grownCap w t.size 0 e := by
    have := grownCap_ge w t.size 0 e
    simp only [Lib.bytesCells, Array.size_append, Array.size_map, Array.size_replicate]
    show t.size + _ = _
    omega
  refine ⟨w.heap.size, _, rfl, hB, by rw [Lib.bytesWorld_size]; omega, grownCap_ge w t.size 0 e, fun j u hu => ?_, fun j hj => ⟨?_, ?_⟩⟩
  · have hj : j < t.size := by
      have := (List.getElem?_eq_some_iff.1 hu).1
      rw [byteCells_len] at this
      exact this
    have hj2 : j < t.data.toList.length := hj
    rw [Lib.bytesWorld_cell w e t j hj, ← hu]
    simp [Lib.byteCells, List.getElem?_eq_getElem hj2]
  · rw [cell_of_row _ _ _ _ _ _ hn, Array.getElem?_eq_getElem (by omega)]; rfl
  · simp [World.frozen?, hn]
    omega
theorem setCells_wo (g : Nat) : ∀ (vs : List Value) (o : Nat) (w : World), Wo (fun k => k = g) w (w.setCells g o vs)
  | [], _, w => Wo.refl _ w
  | v :: r, o, w => ((Wo.refl (fun k => k = g) w).setCell g o v (.inl rfl)).trans (setCells_wo g r (o + 1) _)
theorem Og.put {w : World} {B g cap : Nat} {l : List UInt8} (xs : List UInt8) (h1 : B ≤ g) (h2 : g < w.heap.size) (hr : l.length + xs.length ≤ cap) (h4 : ∀ j u, (Lib.byteCells l)[j]? = some u → w.cell? ⟨g, j, none⟩ = some u) (h5 : ∀ j, j < cap → (w.cell? ⟨g, j, none⟩).isSome = true ∧ w.frozen? ⟨g, j, none⟩ = false) :
    Og (w.setCells g l.length (Lib.byteCells xs)) B (.slice (some ⟨g, 0, none⟩) (l ++ xs).length cap) (l ++ xs) := by
  have hwo := setCells_wo g (Lib.byteCells xs) l.length w
  have hbl : (Lib.byteCells xs).length = xs.length := byteCells_len xs
  refine ⟨g, cap, rfl, h1, Nat.lt_of_lt_of_le h2 hwo.size, by rw [List.length_append]; exact hr, fun j u hu => ?_, fun j hj => ⟨World.isSome_setCells g _ _ w _ (h5 j hj).1, by rw [World.frozen?_setCells]; exact (h5 j hj).2⟩⟩
  rw [byteCells_app] at hu
  have hb1 := byteCells_len l
  by_cases hj : j < l.length
  · rw [World.cell?_setCells_out g _ _ w _ fun _ _ => .inl hj]
    rw [List.getElem?_append_left (by omega)] at hu
    exact h4 j u hu
  · rw [List.getElem?_append_right (by omega), byteCells_len] at hu
    obtain ⟨hj2, e⟩ := List.getElem?_eq_some_iff.1 hu
    have := World.cell?_setCells_in g (Lib.byteCells xs) l.length w (fun i hi => (h5 _ (by omega)).1) (j - l.length) hj2
    rw [show l.length + (j - l.length) = j by omega, e] at this
    exact this
theorem byte_str (t : List UInt8) : Lib.strCells ⟨t.toArray⟩ = Lib.byteCells t := by simp [Lib.strCells, Lib.byteCells]
end Go.Wb
namespace Go.Proofs
open Go.RowKit Go.Wi Go.Wb
set_option maxRecDepth 20000 in
/-- 'append' of a text. -/
theorem Tryz.app_text (ty : TypeId) {w : World} {B : Nat} {V : Value} {l : List UInt8} (h : Og w B V l) (hB : B ≤ w.heap.size) (t : List UInt8) (hlen : l.length + t.length ≤ 140737488355328) :
    ∃ V' w1, (Builtin.append_ #[26, 9] ty #[V, .string ⟨t.toArray⟩]).run Tryz.prog w = .ok V' w1 ∧ Og w1 B V' (l ++ t) ∧ Below B w w1 := by
  obtain ⟨i0, hi0, hz0, hz1, hz2⟩ := info_parts Tryz.info_u8
  have hsz := text_size t
  have hla : (l ++ t).length = l.length + t.length := List.length_append
  obtain ⟨g, cap, rfl, h1, h2, h3, h4, h5⟩ := h
  by_cases hr : l.length + t.length ≤ cap
  · have hbl : (Lib.strCells ⟨t.toArray⟩).length = t.length := by rw [Lib.strCells_length, hsz]
    have hst := run_storeCells_cells (P := Tryz.prog) g l.length (Lib.strCells ⟨t.toArray⟩) 0 w (fun j hj => (h5 _ (by omega)).1) (fun j hj => (h5 _ (by omega)).2) (Lib.strCells_oneCell _)
    have hf := Lib.run_firstCells_string (P := Tryz.prog) w 1 ⟨t.toArray⟩
    rw [hsz] at hf
    simp only [Nat.add_zero] at hst
    have hrun : (Builtin.append_ #[26, 9] ty #[.slice (some ⟨g, 0, none⟩) l.length cap, .string ⟨t.toArray⟩]).run Tryz.prog w = .ok (.slice (some ⟨g, 0, none⟩) (l.length + t.length) cap) (w.setCells g l.length (Lib.strCells ⟨t.toArray⟩)) := by
      simp [Builtin.append_, run_underlying Tryz.underlying26, run_underlying Tryz.underlying9, sizeOf, typeInfo, hi0, hz1, Builtin.lenOf, hsz, hr, hf, Addr.add_lit, hst]
    refine ⟨_, _, hrun, ?_, ?_⟩
    · rw [byte_str, ← hla]
      exact Og.put t h1 h2 hr h4 h5
    · have hwo := setCells_wo g (Lib.strCells ⟨t.toArray⟩) l.length w
      exact Wo.toBelow (Below.refl B w) hwo (fun k e => by rw [e]; exact h1) hB
  · have hg := Lib.run_append_grow_string (P := Tryz.prog) w 26 9 ty 5 i0 _ Tryz.underlying26 Tryz.underlying9 hi0 hz0 ⟨g, 0, none⟩ l.length cap (Lib.byteCells l) (by rw [byteCells_len, hz1, Nat.mul_one]) (fun j u hu => by rw [add_at]; exact h4 j u hu) ⟨t.toArray⟩ (by rw [hsz]; omega) (by rw [hsz]; omega) (growslice_fits (by rw [hsz]; omega) (by rw [hsz, hz2]; omega))
    refine ⟨_, _, hg, ?_, ((Below.refl _ w).drew).alloc hB _⟩
    rw [hsz, byte_str, ← hla]
    have hge := grownCap_ge w (l ++ t).length cap 5
    refine Og.made (w := w.drew) hB _ ?_ hge ?_
    · rw [Array.size_append, Array.size_append, size_zeroCells]
      show (Lib.byteCells l).length + (Lib.byteCells t).length + _ * 1 = _
      rw [byteCells_len, byteCells_len]
      omega
    · intro j u hu
      have hj := (List.getElem?_eq_some_iff.1 hu).1
      rw [byteCells_app] at hu hj
      rw [Array.getElem?_append_left (by simpa using hj), ← hu]
      simp
set_option maxRecDepth 20000 in
/-- 'append' of bytes. -/
theorem Tryz.app_bytes (ty : TypeId) {w : World} {B : Nat} {V Y : Value} {l t : List UInt8} (h : Og w B V l) (hB : B ≤ w.heap.size) (hY : Bs w Y t) (hlen : l.length + t.length ≤ 140737488355328) :
    ∃ V' w1, (Builtin.append_ #[26, 26] ty #[V, Y]).run Tryz.prog w = .ok V' w1 ∧ Og w1 B V' (l ++ t) ∧ Below B w w1 := by
  obtain ⟨i0, hi0, hz0, hz1, hz2⟩ := info_parts Tryz.info_u8
  have hla : (l ++ t).length = l.length + t.length := List.length_append
  obtain ⟨ad, c, rfl, hc, hn, hx⟩ := hY.ex
  clear hY
  obtain ⟨g, cap, rfl, h1, h2, h3, h4, h5⟩ := h
  cases ad with
  | none =>
    have hc0 := hn rfl
    have ht : t = [] := List.eq_nil_of_length_eq_zero (by omega)
    subst ht hc0
    refine ⟨.slice (some ⟨g, 0, none⟩) l.length cap, w, ?_, ?_, Below.refl _ _⟩
    · simp [Builtin.append_, run_underlying Tryz.underlying26, sizeOf, typeInfo, hi0, Builtin.lenOf, Builtin.firstCells, h3, storeCells]
    · rw [List.append_nil]
      exact ⟨g, cap, rfl, h1, h2, h3, h4, h5⟩
  | some a =>
    have hnews : ∀ (j : Nat) u, (Lib.byteCells t)[j]? = some u → w.cell? (a.add j) = some u := by
      intro j u hu
      rcases hx with rfl | ⟨g2, o2, e, hg2, hcell⟩
      · simp [Lib.byteCells] at hu
      · injection e with e
        subst e
        rw [Addr.add_mid]
        exact hcell j u hu
    have hone : ∀ u ∈ Lib.byteCells t, u.oneCell' = true := fun u hu => by
      simp only [Lib.byteCells, List.mem_map] at hu
      obtain ⟨b, _, rfl⟩ := hu
      rfl
    have hbl := byteCells_len t
    by_cases hr : l.length + t.length ≤ cap
    · have hsp : ∀ j, j < (Lib.byteCells t).length → (w.cell? ⟨g, 0 + l.length * i0.size + j, none⟩).isSome = true ∧ w.frozen? ⟨g, 0 + l.length * i0.size + j, none⟩ = false := fun j hj => by
        rw [hz1]
        exact h5 _ (by omega)
      have hrun := run_append_room_cells (P := Tryz.prog) w 26 ty 5 i0 Tryz.underlying26 hi0 g 0 l.length cap a t.length c (Lib.byteCells t) (by rw [hz1, byteCells_len]; omega) hnews hone hr (fun j hj => (hsp j hj).1) (fun j hj => (hsp j hj).2)
      rw [hz1, Nat.zero_add, Nat.mul_one] at hrun
      refine ⟨_, _, hrun, ?_, Wo.toBelow (Below.refl B w) (setCells_wo g (Lib.byteCells t) l.length w) (fun k e => by rw [e]; exact h1) hB⟩
      rw [← hla]
      exact Og.put t h1 h2 hr h4 h5
    · obtain ⟨v', w', hrun, r1, r2⟩ := run_append_arg_grows (P := Tryz.prog) w 26 ty 5 i0 _ 1 1 Tryz.underlying26 hi0 hz0 hz1 hz2 rfl (by omega) ⟨g, 0, none⟩ l.length cap (Lib.byteCells l) (by rw [byteCells_len]; omega) (fun j u hj => by rw [Addr.add_mid, Nat.zero_add]; exact h4 j u hj) a t.length c (Lib.byteCells t) (by rw [byteCells_len]; omega) hnews (by omega) (by unfold maxLen; omega) (by omega)
      refine ⟨v', w', hrun, ?_, Wo.toBelow (own := fun _ => False) (Below.refl B w) ((Wo.refl _ w).grown r2 fun k e => by cases e) (fun k e => by cases e) hB⟩
      rw [← byteCells_app] at r1
      have hl2 := r1.1
      rcases r1.2 with ⟨_, e0⟩ | ⟨g3, cap3, cur, rfl, hB3, hg3, h6, h7, h8, h9⟩
      · omega
      · rw [← hla] at *
        refine ⟨g3, cap3, rfl, Nat.le_trans hB hB3, block_lt hg3, h6, fun j u hu => ?_, fun j hj => ⟨?_, frozen_of_row _ _ _ _ _ hg3⟩⟩
        · rw [cell_of_row _ _ _ _ _ _ hg3]
          rw [← h9, List.getElem?_take] at hu
          split at hu
          · rw [← Array.getElem?_toList]; exact hu
          · cases hu
        · rw [cell_of_row _ _ _ _ _ _ hg3, Array.getElem?_eq_getElem (by omega)]; rfl
theorem Tryz.wl_text {ops : Array Oper} {rest : List Oper} {o : Oper} {a : Act} {Q : Exit → Act → World → Prop} (hgd : o.guard = none) (s y : Operand) (ho : o.op = .call { callee := .builtin .append, args := #[s, y], argTypes := #[26, 9] })
    {w : World} {B : Nat} {V : Value} {l : List UInt8} (h : Og w B V l) (hB : B ≤ w.heap.size) (hs : a.eval s = V) (t : List UInt8) (hy : a.eval y = .string ⟨t.toArray⟩) (hlen : l.length + t.length ≤ 140737488355328)
    (hK : ∀ V' w1, Og w1 B V' (l ++ t) → Below B w w1 → wpList Tryz.prog ops Q rest (a.put o.dst V') w1) : wpList Tryz.prog ops Q (o :: rest) a w := by
  obtain ⟨V', w1, hr, h1, h2⟩ := Tryz.app_text o.type h hB t hlen
  exact Lib.wpList_append_run w hgd s y _ _ ho _ _ hs hy _ _ hr (hK V' w1 h1 h2)
theorem Tryz.wl_bytes {ops : Array Oper} {rest : List Oper} {o : Oper} {a : Act} {Q : Exit → Act → World → Prop} (hgd : o.guard = none) (s y : Operand) (ho : o.op = .call { callee := .builtin .append, args := #[s, y], argTypes := #[26, 26] })
    {w : World} {B : Nat} {V Y : Value} {l t : List UInt8} (h : Og w B V l) (hB : B ≤ w.heap.size) (hs : a.eval s = V) (hY : Bs w Y t) (hy : a.eval y = Y) (hlen : l.length + t.length ≤ 140737488355328)
    (hK : ∀ V' w1, Og w1 B V' (l ++ t) → Below B w w1 → wpList Tryz.prog ops Q rest (a.put o.dst V') w1) : wpList Tryz.prog ops Q (o :: rest) a w := by
  obtain ⟨V', w1, hr, h1, h2⟩ := Tryz.app_bytes o.type h hB hY hlen
  exact Lib.wpList_append_run w hgd s y _ _ ho _ _ hs hy _ _ hr (hK V' w1 h1 h2)
end Go.Proofs
namespace Go.Wb
open Go.RowKit Go.Proofs
def headText (L : List (List UInt8 × List UInt8)) : List UInt8 := L.flatMap fun h => h.1 ++ [58, 32] ++ h.2 ++ [13, 10]
theorem headText_next {L : List (List UInt8 × List UInt8)} {i : Nat} (hi : i < L.length) : headText (L.take (i + 1)) = headText (L.take i) ++ (L[i].1 ++ [58, 32] ++ L[i].2 ++ [13, 10]) := by
  unfold headText
  rw [List.take_add_one, List.getElem?_eq_getElem hi, List.flatMap_append]
  simp
theorem headText_len (L : List (List UInt8 × List UInt8)) : (headText L).length = (L.map fun h => h.1.length + h.2.length + 4).sum := by
  induction L with
  | nil => rfl
  | cons a l ih =>
    have e : headText (a :: l) = a.1 ++ [58, 32] ++ a.2 ++ [13, 10] ++ headText l := rfl
    rw [e, List.length_append, ih, List.map_cons, List.sum_cons]
    simp
    omega
theorem sum_take_le (L : List (List UInt8 × List UInt8)) (f : List UInt8 × List UInt8 → Nat) (i : Nat) : ((L.take i).map f).sum ≤ (L.map f).sum := by
  induction L generalizing i with
  | nil => simp
  | cons a l ih =>
    cases i with
    | zero => exact Nat.zero_le _
    | succ i =>
      have := ih i
      rw [List.take_succ_cons, List.map_cons, List.map_cons, List.sum_cons, List.sum_cons]
      omega
theorem bytesW_below (w : World) (e : TypeId) (t : ByteArray) : Below w.heap.size w (Lib.bytesWorld w e t) := ⟨rfl, rfl, rfl, by rw [Lib.bytesWorld_size]; omega, fun k hk => Lib.bytesWorld_at_old w _ t k hk⟩
theorem bytesW_size (w : World) (e : TypeId) (t : ByteArray) : w.heap.size ≤ (Lib.bytesWorld w e t).heap.size := (bytesW_below w e t).size
theorem cat4 (a b : List UInt8) : (⟨a.toArray⟩ : ByteArray) ++ ⟨#[58, 32]⟩ ++ ⟨b.toArray⟩ ++ ⟨#[13, 10]⟩ = ⟨(a ++ [58, 32] ++ b ++ [13, 10]).toArray⟩ := by
  apply ByteArray.ext
  simp [ByteArray.data_append]
def printedT (line : List UInt8) (L : List (List UInt8 × List UInt8)) (body : List UInt8) : List UInt8 := line ++ [13, 10] ++ headText L ++ [13, 10] ++ body
def printedOk (line : List UInt8) (L : List (List UInt8 × List UInt8)) : Prop := L.length ≤ 32 ∧ headSize line L ≤ 2048
end Go.Wb
namespace Go.Proofs
open Go.RowKit Go.Wi Go.Wb
set_option maxRecDepth 20000 in
set_option maxHeartbeats 1000000 in
theorem Tryz.printed_any {w : World} {V Y : Value} {L : List (List UInt8 × List UInt8)} {body : List UInt8} (h : Hs w V L) (hY : Bs w Y body) (hYl : ∀ k, Y.ownBlock = some k → k < w.heap.size) (line : List UInt8) (hll : line.length ≤ 140737488355328) (hl : ∀ x ∈ L, x.1.length ≤ 140737488355328 ∧ x.2.length ≤ 140737488355328) (hL : L.length ≤ 9223372036854775807) (hb : body.length ≤ 140737488351232) :
    Calls Tryz.prog 28 #[.string ⟨line.toArray⟩, V, Y] w fun e w' => Below w.heap.size w w' ∧ ((printedOk line L ∧ ∃ R, e = .returned (.tuple #[R, .int .i64 0]) ∧ Og w' w.heap.size R (printedT line L body)) ∨ (¬ printedOk line L ∧ e = .returned (.tuple #[.slice none 0 0, .int .i64 181]))) := by
  obtain ⟨ad, cap, e0, hx⟩ := h.ex
  subst e0
  by_cases h32 : L.length ≤ 32
  · have ks := Tryz.headSize_any h line hll h32 hl
    have q0 : ¬ ((L.length : Int) > 32) := by omega
    by_cases h48 : headSize line L ≤ 2048
    · have q1 : ¬ ((headSize line L : Nat) : Int) > 2048 := by omega
      have HOK : Hid (printedOk line L) := ⟨h32, h48⟩
      have hcv := Tryz.conv_sb ⟨line.toArray⟩
      have hsz := text_size line
      rw [hsz] at hcv
      have HHB : Hid (∀ i, (headText (L.take i)).length + line.length + 4 ≤ 2048) := fun i => by
        rw [headText_len]
        have := sum_take_le L (fun h => h.1.length + h.2.length + 4) i
        unfold headSize at h48
        omega
      have HHS : Hid (Hs w (.slice ad L.length cap) L) := h
      have HYY : Hid (Bs w Y body) := hY
      have HYL : Hid (∀ k, Y.ownBlock = some k → k < w.heap.size) := hYl
      have HL2 : Hid (line.length + [13, 10].length ≤ 140737488355328) := (by have := HHB.out 0; show line.length + 2 ≤ _; omega)
      clear h48 h hY hYl hx
      generalize headSize line L = N at *
      go_enter Tryz.func28, Tryz.ntmps28
      go_wp2_with (first
        | (go_at_call 47; refine ks.mono ?_; clear ks; rintro e w1 ⟨rfl, hb1⟩; have hO1 : Og (Lib.bytesWorld w1 5 ⟨line.toArray⟩) w.heap.size (.slice (some ⟨w1.heap.size, 0, none⟩) line.length (grownCap w1 line.length 0 5)) line := (by have := Og.start w1 5 ⟨line.toArray⟩ hb1.size; rw [hsz] at this; simpa using this); have hcv1 := hcv w1)
        | (at_builtin; refine Tryz.wl_text rfl _ _ rfl hO1 (Nat.le_trans hb1.size (bytesW_size w1 5 _)) rfl [13, 10] rfl HL2.out ?_; intro V2 w2 hO2 hb2; clear hcv1 hO1)
        | fail)
      have HO : Hid (Og w2 w.heap.size V2 (line ++ [13, 10])) := hO2
      have HB : Hid (Below w.heap.size w w2) := hb1.trans (((bytesW_below w1 5 ⟨line.toArray⟩).mono hb1.size).trans hb2)
      clear hO2 hb1 hb2
      go_loopw [8, 10, 25] (fun R _ iv wr => ∃ i : Nat, iv = .int .i64 i ∧ i ≤ L.length ∧ Og wr w.heap.size R (line ++ [13, 10] ++ headText (L.take i)) ∧ Below w.heap.size w wr) (fun _ _ iv _ => L.length - (intOf iv).toNat)
      case atStart => exact ⟨0, rfl, Nat.zero_le _, by simpa [headText] using HO.out, HB.out⟩
      case round =>
        obtain ⟨i, rfl, hi, hog, hbel⟩ := hrel
        have HG : Hid (Og wr w.heap.size u8 (line ++ [13, 10] ++ headText (L.take i))) := hog
        have HB2 : Hid (Below w.heap.size w wr) := hbel
        clear hog hbel
        by_cases hlt : i < L.length
        · have q : (i : Int) < (L.length : Int) := by omega
          obtain ⟨g, o, rfl, c0, c1⟩ : ∃ g o, ad = some ⟨g, o, none⟩ ∧ wr.cell? ⟨g, o + i * 2, none⟩ = some (.string ⟨L[i].1.toArray⟩) ∧ wr.cell? ⟨g, o + i * 2 + 1, none⟩ = some (.string ⟨L[i].2.toArray⟩) := by
            obtain ⟨ad', cap', e', hx⟩ := (HHS.out.below HB2.out).ex
            injection e' with e1 e2 e3
            subst e1
            rcases hx with e | ⟨g, o, e, hg, hc⟩
            · rw [e] at hlt; cases hlt
            · exact ⟨g, o, e, (hc i hlt).1, (hc i hlt).2⟩
          have HN : Hid (headText (L.take (i + 1)) = headText (L.take i) ++ (L[i].1 ++ [58, 32] ++ L[i].2 ++ [13, 10])) := headText_next hlt
          have hbd := HHB.out (i + 1)
          rw [HN.out] at hbd
          generalize headText (L.take i) = T0 at *
          generalize L[i].1 = n at *
          generalize L[i].2 = v at *
          have HA : Hid (Below w.heap.size w (wr.alloc (.cells #[.string ⟨n.toArray⟩, .string ⟨v.toArray⟩] 61))) := HB2.out.alloc HB2.out.size _
          have HG2 : Hid (Og (wr.alloc (.cells #[.string ⟨n.toArray⟩, .string ⟨v.toArray⟩] 61)) w.heap.size u8 (line ++ [13, 10] ++ T0)) := HG.out.below ((Below.refl _ wr).alloc (Nat.le_refl _) _) (Nat.le_refl _)
          have HL3 : Hid ((line ++ [13, 10] ++ T0).length + (n ++ [58, 32] ++ v ++ [13, 10]).length ≤ 140737488355328) := (by show _ ≤ _; simp at hbd ⊢; omega)
          have a1 : ¬ 9223372036854775807 < n.length + 2 := by simp at hbd; omega
          have a2 : ¬ 9223372036854775807 < n.length + 2 + v.length := by simp at hbd; omega
          have a3 : ¬ 9223372036854775807 < n.length + 2 + v.length + 2 := by simp at hbd; omega
          clear hbd
          go_wp2_with (first | (at_builtin; refine Tryz.wl_text rfl _ _ rfl HG2.out HA.out.size rfl (n ++ [58, 32] ++ v ++ [13, 10]) (congrArg Value.string (cat4 n v)) HL3.out ?_; intro R2 w3 hO3 hb3) | fail)
          go_roundw
          case rel => exact ⟨i + 1, by simp, by omega, by rw [HN.out, ← List.append_assoc]; exact hO3, HA.out.trans hb3⟩
          case measure => simp [intOf]; omega
        · have q : ¬ (i : Int) < (L.length : Int) := by omega
          have e : L.take i = L := List.take_of_length_le (by omega)
          have HT : Hid (printedT line L body = line ++ [13, 10] ++ headText L ++ [13, 10] ++ body) := rfl
          have hbd := HHB.out i
          rw [e] at hbd
          have HG3 : Hid (Og wr w.heap.size u8 (line ++ [13, 10] ++ headText L)) := (by have := HG.out; rw [e] at this; exact this)
          clear e HG
          generalize headText L = T0 at *
          have HL4 : Hid ((line ++ [13, 10] ++ T0).length + [13, 10].length ≤ 140737488355328) := (by show _ ≤ _; simp; omega)
          have HL5 : Hid ((line ++ [13, 10] ++ T0 ++ [13, 10]).length + body.length ≤ 140737488355328) := (by show _ ≤ _; simp; omega)
          clear hbd
          go_wp2_with (first
            | (at_builtin; refine Tryz.wl_text rfl _ _ rfl HG3.out HB2.out.size rfl [13, 10] rfl HL4.out ?_; intro R3 w3 hO3 hb3; have hB3 := HB2.out.trans hb3; have hY3 := HYY.out.below hB3 HYL.out)
            | (at_builtin; refine Tryz.wl_bytes rfl _ _ rfl hO3 hB3.size rfl hY3 rfl HL5.out ?_; intro R4 w4 hO4 hb4)
            | fail)
          go_ret2
          exact ⟨hB3.trans hb4, .inl ⟨HOK.out, R4, rfl, by rw [HT.out]; exact hO4⟩⟩
    · have q1 : ((headSize line L : Nat) : Int) > 2048 := by omega
      have HNO : Hid (¬ printedOk line L) := fun e => h48 e.2
      clear h48
      generalize headSize line L = N at *
      go_enter Tryz.func28, Tryz.ntmps28
      go_wp2_with (first | (go_at_call 47; refine ks.mono ?_; clear ks; rintro e w1 ⟨rfl, hb1⟩) | fail)
      go_ret2
      exact ⟨hb1, .inr ⟨HNO.out, rfl⟩⟩
  · have q0 : (L.length : Int) > 32 := by omega
    have HNO : Hid (¬ printedOk line L) := fun e => h32 e.1
    go_enter Tryz.func28, Tryz.ntmps28
    go_wp2_with (fail)
    go_ret2
    exact ⟨Below.refl _ _, .inr ⟨HNO.out, rfl⟩⟩
end Go.Proofs
namespace Go.Wb
open Go.RowKit Go.Proofs
def bareI (st : Int) : Bool := st == 204 || st == 304
def okStI (st : Int) : Bool := decide (200 ≤ st) && decide (st ≤ 599)
def mayPrint (st : Int) (L : List (List UInt8 × List UInt8)) (body : List UInt8) : Bool := okStI st && !(bareI st && decide (0 < body.length)) && mayStand L
def lenH (dec : Int → List UInt8) (st : Int) (body : List UInt8) : List (List UInt8 × List UInt8) := if bareI st then [] else [(sCL, dec body.length)]
def prHeads (dec : Int → List UInt8) (st : Int) (L : List (List UInt8 × List UInt8)) (body : List UInt8) (last : Bool) : List (List UInt8 × List UInt8) := L ++ lenH dec st body ++ (if last then [(sCo, wClose)] else [])
def prLine (dec : Int → List UInt8) (st : Int) : List UInt8 := [72, 84, 84, 80, 47, 49, 46, 49, 32] ++ dec st ++ [32] ++ reason st
end Go.Wb
namespace Go.Proofs
open Go.RowKit Go.Wi Go.Wb
set_option maxRecDepth 20000 in
set_option maxHeartbeats 1000000 in
theorem Tryz.printResponse_no {w : World} {V Y : Value} {L : List (List UInt8 × List UInt8)} {body : List UInt8} (st : Int) (last : Bool) (hV : Hs w V L) (hY : Bs w Y body) (hl : ∀ x ∈ L, x.1.length ≤ 140737488355328 ∧ x.2.length ≤ 140737488355328) (hL : L.length ≤ 9223372036854775807) (hb : body.length ≤ 140737488351232) (hno : mayPrint st L body = false) :
    Calls Tryz.prog 8 #[.agg #[.int .i64 st, V, Y, .bool last]] w fun e w' => e = .returned (.tuple #[.slice none 0 0, .int .i64 180]) ∧ Below w.heap.size w w' := by
  have k1 := Tryz.hasNoBody_any st
  have k2 := Tryz.isStatus_any st
  have hA : Below w.heap.size w (w.alloc (.cells #[.int .i64 st, V, Y, .bool last] 31)) := (Below.refl _ w).alloc (Nat.le_refl _) _
  have k3 := Tryz.mayStand_any (hV.below hA) hL hl
  have HA : Hid _ := hA
  clear hA
  have e1 : (st == 204 || st == 304) = bareI st := rfl
  have e2 : (decide (200 ≤ st) && decide (st ≤ 599)) = okStI st := rfl
  rw [e2] at k2
  simp only [e1] at k1
  clear e1 e2
  obtain ⟨ad, cap, rfl, hyc, hyn, hyx⟩ := hY.ex
  have HH : Hid (mayPrint st L body = (okStI st && !(bareI st && decide (0 < body.length)) && mayStand L)) := rfl
  have hno2 := hno
  rw [HH.out] at hno2
  clear HH hyx hyn hyc
  generalize mayStand L = ms at *
  generalize okStI st = os at *
  generalize bareI st = br at *
  cases os with
  | false =>
    go_enter Tryz.func8, Tryz.ntmps8
    go_wp2_with (first
      | (go_at_call 22; refine (k1 _).mono ?_; rintro e w1 ⟨rfl, rfl⟩)
      | (go_at_call 23; refine (k2 _).mono ?_; rintro e w2 ⟨rfl, rfl⟩)
      | fail)
    go_ret2
    exact ⟨rfl, HA.out⟩
  | true =>
  by_cases hbb : (body.length : Int) > 0
  · cases br with
    | true =>
      clear hno2
      have hbb2 : decide ((0 : Int) < (body.length : Int)) = true := decide_eq_true hbb
      have hbb3 : body ≠ [] := fun e => by rw [e] at hbb; simp at hbb
      go_enter Tryz.func8, Tryz.ntmps8
      go_wp2_with (first
        | (go_at_call 22; refine (k1 _).mono ?_; rintro e w1 ⟨rfl, rfl⟩)
        | (go_at_call 23; refine (k2 _).mono ?_; rintro e w2 ⟨rfl, rfl⟩)
        | fail)
      go_ret2
      exact ⟨rfl, HA.out⟩
    | false =>
      obtain rfl : ms = false := by simpa using hno2
      go_enter Tryz.func8, Tryz.ntmps8
      go_wp2_with (first
        | (go_at_call 22; refine (k1 _).mono ?_; rintro e w1 ⟨rfl, rfl⟩)
        | (go_at_call 23; refine (k2 _).mono ?_; rintro e w2 ⟨rfl, rfl⟩)
        | (go_at_call 24; refine k3.mono ?_; clear k3; rintro e w3 ⟨rfl, hb3⟩)
        | fail)
      go_ret2
      exact ⟨rfl, HA.out.trans (hb3.mono HA.out.size)⟩
  · obtain rfl : ms = false := by
      have : ¬ 0 < body.length := by omega
      simpa [this] using hno2
    clear hno2
    obtain rfl : body = [] := List.eq_nil_of_length_eq_zero (by omega)
    clear hbb
    simp only [List.length_nil] at k3 HA
    cases br <;>
    · go_enter Tryz.func8, Tryz.ntmps8
      go_wp2_with (first
        | (go_at_call 22; refine (k1 _).mono ?_; rintro e w1 ⟨rfl, rfl⟩)
        | (go_at_call 23; refine (k2 _).mono ?_; rintro e w2 ⟨rfl, rfl⟩)
        | (go_at_call 24; refine k3.mono ?_; clear k3; rintro e w3 ⟨rfl, hb3⟩)
        | fail)
      go_ret2
      exact ⟨rfl, HA.out.trans (hb3.mono HA.out.size)⟩
end Go.Proofs
namespace Go.Wb
theorem reason_len (n : Int) : (reason n).length ≤ 40 := by
  have h : ∀ (c : Prop) [Decidable c] (a b : List UInt8), a.length ≤ 40 → b.length ≤ 40 → (if c then a else b).length ≤ 40 := fun c _ a b ha hb => by split; exact ha; exact hb
  unfold reason
  repeat (refine h _ _ _ (by decide) ?_)
  decide
theorem cat3 (a b : List UInt8) : (⟨#[72, 84, 84, 80, 47, 49, 46, 49, 32]⟩ : ByteArray) ++ ⟨a.toArray⟩ ++ ⟨#[32]⟩ ++ ⟨b.toArray⟩ = ⟨([72, 84, 84, 80, 47, 49, 46, 49, 32] ++ a ++ [32] ++ b).toArray⟩ := by
  apply ByteArray.ext
  simp [ByteArray.data_append]
theorem Og.mono {w : World} {B B' : Nat} {V : Value} {l : List UInt8} (h : Og w B V l) (hB : B' ≤ B) : Og w B' V l := by
  obtain ⟨g, cap, rfl, h1, h2⟩ := h
  exact ⟨g, cap, rfl, Nat.le_trans hB h1, h2⟩
theorem lenH_len (dec : Int → List UInt8) (st : Int) (body : List UInt8) : (lenH dec st body).length ≤ 1 := by
  unfold lenH
  split <;> simp
end Go.Wb
namespace Go.Proofs
open Go.RowKit Go.Wi Go.Wb
/-- What PrintResponse answers of what may be printed. -/
def Tryz.Prd (w w' : World) (line : List UInt8) (H : List (List UInt8 × List UInt8)) (body : List UInt8) (e : Ending) : Prop :=
  Below w.heap.size w w' ∧ ((printedOk line H ∧ ∃ R, e = .returned (.tuple #[R, .int .i64 0]) ∧ Og w' w.heap.size R (printedT line H body)) ∨ (¬ printedOk line H ∧ e = .returned (.tuple #[.slice none 0 0, .int .i64 181])))
set_option maxHeartbeats 400000 in
/-- slices.Concat of a row of three. -/
theorem Tryz.concat3 {w : World} {V V4 V6 : Value} {L K M : List (List UInt8 × List UInt8)} (h1 : Hs w V L) (h2 : Hs w V4 K) (h3 : Hs w V6 M) (ht : L.length + K.length + M.length ≤ 4398046511104) :
    Calls Tryz.prog 29 #[.slice (some ⟨w.heap.size, 0, none⟩) 3 3] (w.alloc (.cells #[V, V4, V6] 22)) fun e w' => ∃ R, e = .returned R ∧ Hs w' R (L ++ K ++ M) ∧ Below w.heap.size w w' := by
  have hn : (w.alloc (.cells #[V, V4, V6] 22)).heap[w.heap.size]? = some (.cells #[V, V4, V6] 22 (0, 0)) := heap_alloc_new w _
  have hb : Below w.heap.size w (w.alloc (.cells #[V, V4, V6] 22)) := (Below.refl _ w).alloc (Nat.le_refl _) _
  have e1 : cat [(V, L), (V4, K), (V6, M)] = L ++ K ++ M := by simp [cat]
  have e2 : tot [(V, L), (V4, K), (V6, M)] = L.length + K.length + M.length := by simp [tot]; omega
  refine (Tryz.concat_any (c := 3) (block_lt hn) [(V, L), (V4, K), (V6, M)] (by simp) ?_ ?_ (by rw [e2]; exact ht)).mono ?_
  · intro j hj
    rw [cell_of_row _ _ _ _ _ _ hn]
    match j, hj with
    | 0, _ => rfl
    | 1, _ => rfl
    | 2, _ => rfl
  · intro p hp
    simp only [List.mem_cons, List.not_mem_nil, or_false] at hp
    rcases hp with rfl | rfl | rfl
    · exact h1.below hb
    · exact h2.below hb
    · exact h3.below hb
  · rintro e w' ⟨R, rfl, hr, hb'⟩
    rw [e1] at hr
    exact ⟨R, rfl, Hs.ofRow hr, hb.trans (hb'.mono hb.size)⟩
set_option maxRecDepth 20000 in
set_option maxHeartbeats 4000000 in
theorem Tryz.printResponse_yes {w : World} {V Y : Value} {L : List (List UInt8 × List UInt8)} {body : List UInt8} (dec : Int → List UInt8) (st : Int) (last : Bool) (hV : Hs w V L) (hY : Bs w Y body) (hYl : ∀ k, Y.ownBlock = some k → k < w.heap.size) (hl : ∀ x ∈ L, x.1.length ≤ 140737488355328 ∧ x.2.length ≤ 140737488355328) (hL : L.length ≤ 4398046511000) (hb : body.length ≤ 140737488351232)
    (hI : ∀ (n : Int) W, 0 ≤ n → n ≤ 9223372036854775807 → Below w.heap.size w W → Calls Tryz.prog 26 #[.int .i64 n] W fun e w' => e = .returned (.string ⟨(dec n).toArray⟩) ∧ Below W.heap.size W w') (hd : ∀ n : Int, 0 ≤ n → n ≤ 9223372036854775807 → (dec n).length ≤ 30) (hno : mayPrint st L body = true) :
    Calls Tryz.prog 8 #[.agg #[.int .i64 st, V, Y, .bool last]] w fun e w' => Tryz.Prd w w' (prLine dec st) (prHeads dec st L body last) body e := by
  obtain ⟨adY, capY, eY, hyr⟩ := hY.ex
  subst eY
  clear hyr
  obtain ⟨adV, capV, eV, hvr⟩ := hV.ex
  subst eV
  clear hvr
  have k1 := Tryz.hasNoBody_any st
  have k2 := Tryz.isStatus_any st
  have kR := Tryz.reason_any st
  have hA : Below w.heap.size w (w.alloc (.cells #[.int .i64 st, .slice adV L.length capV, .slice adY body.length capY, .bool last] 31)) := (Below.refl _ w).alloc (Nat.le_refl _) _
  have k3 := Tryz.mayStand_any (hV.below hA) (by omega) hl
  have HA : Hid _ := hA
  have e1 : (st == 204 || st == 304) = bareI st := rfl
  have e2 : (decide (200 ≤ st) && decide (st ≤ 599)) = okStI st := rfl
  rw [e2] at k2
  simp only [e1] at k1
  have hn0 := hno
  unfold mayPrint at hn0
  simp only [Bool.and_eq_true, Bool.not_eq_true'] at hn0
  obtain ⟨⟨ho, hbr⟩, hms⟩ := hn0
  have hst : 200 ≤ st ∧ st ≤ 599 := by simpa [okStI] using ho
  rw [ho] at k2
  rw [hms] at k3
  clear e1 e2 ho hms hno
  have HI : Hid _ := hI
  have hrl := reason_len st
  have HLL : Hid _ := hl
  have kI : ∀ W, Below w.heap.size w W → Calls Tryz.prog 26 #[.int .i64 st] W fun e w' => e = .returned (.string ⟨(dec st).toArray⟩) ∧ Below W.heap.size W w' := fun W hW => HI.out _ W (by omega) (by omega) hW
  have hdl := hd st (by omega) (by omega)
  have HDB : Hid ((dec body.length).length ≤ 30) := hd body.length (by omega) (by omega)
  have HC : Hid (∀ W, Below (w.heap.size + 1) (w.alloc (.cells #[.int .i64 st, .slice adV L.length capV, .slice adY body.length capY, .bool last] 31)) W → W.cell? ⟨w.heap.size, 0, none⟩ = some (.int .i64 st) ∧ W.cell? ⟨w.heap.size, 1, none⟩ = some (.slice adV L.length capV) ∧ W.cell? ⟨w.heap.size, 2, none⟩ = some (.slice adY body.length capY) ∧ W.cell? ⟨w.heap.size, 3, none⟩ = some (.bool last)) := fun W hW => by
    have hn := heap_alloc_new w (.cells #[.int .i64 st, .slice adV L.length capV, .slice adY body.length capY, .bool last] 31)
    exact ⟨(hW.cell (p := ⟨w.heap.size, 0, none⟩) (Nat.lt_succ_self _)).trans (cell_of_row _ _ 0 _ _ _ hn), (hW.cell (p := ⟨w.heap.size, 1, none⟩) (Nat.lt_succ_self _)).trans (cell_of_row _ _ 1 _ _ _ hn), (hW.cell (p := ⟨w.heap.size, 2, none⟩) (Nat.lt_succ_self _)).trans (cell_of_row _ _ 2 _ _ _ hn), (hW.cell (p := ⟨w.heap.size, 3, none⟩) (Nat.lt_succ_self _)).trans (cell_of_row _ _ 3 _ _ _ hn)⟩
  have hsz : (w.alloc (.cells #[.int .i64 st, .slice adV L.length capV, .slice adY body.length capY, .bool last] 31)).heap.size = w.heap.size + 1 := by simp
  have HS : Hid _ := hsz
  have hlen1 := lenH_len dec st body
  clear hd hI hA hsz
  have HH : Hid (lenH dec st body = if bareI st then [] else [(sCL, dec body.length)]) := rfl
  cases hbs : bareI st
  case' true =>
    rw [hbs] at k1 hbr HH
    have HV0 : Hid (∀ W, Hs W (.slice none 0 0) (lenH dec st body)) := fun W => by rw [HH.out]; exact ⟨⟨none, 0, rfl, .inl rfl⟩, .inl rfl⟩
    have hz : decide ((0 : Int) < (body.length : Int)) = false := by
      have h0 : ¬ 0 < body.length := by simpa using hbr
      exact decide_eq_false (by omega)
    have hz2 : ¬ ((body.length : Int) > 0) := by simpa using hz
    go_enter Tryz.func8, Tryz.ntmps8
    go_wp2_with (first
      | (go_at_call 22; refine (k1 _).mono ?_; rintro e w1 ⟨rfl, rfl⟩)
      | (go_at_call 23; refine (k2 _).mono ?_; rintro e w2 ⟨rfl, rfl⟩)
      | (go_at_call 24; refine k3.mono ?_; clear k3; rintro e w4 ⟨rfl, hb4'⟩; rw [HS.out] at hb4'; have hB4 := HA.out.trans (hb4'.mono (Nat.le_succ _)); have HS4 : Hid (w.heap.size + 1 ≤ w4.heap.size) := (by have := hb4'.size; rw [HS.out] at this; exact this); obtain ⟨d0, d1, d2, d3⟩ := HC.out w4 hb4')
      | fail)
    have hV4 := HV0.out w4
    clear hz hz2 HV0
  case' false =>
    rw [hbs] at k1 hbr HH
    have kl : ∀ W, Below w.heap.size w W → Calls Tryz.prog 25 #[.slice adY body.length capY] W fun e w' => ∃ V, e = .returned V ∧ Hs w' V (lenH dec st body) ∧ Below W.heap.size W w' := fun W hW => by
      rw [HH.out]
      exact Tryz.lengthOf_any (.slice adY body.length capY) body.length (dec body.length) ⟨_, _, rfl⟩ (by omega) fun W2 hW2 => HI.out _ W2 (by omega) (by omega) (hW.trans (hW2.mono hW.size))
    go_enter Tryz.func8, Tryz.ntmps8
    go_wp2_with (first
      | (go_at_call 22; refine (k1 _).mono ?_; rintro e w1 ⟨rfl, rfl⟩)
      | (go_at_call 23; refine (k2 _).mono ?_; rintro e w2 ⟨rfl, rfl⟩)
      | (go_at_call 24; refine k3.mono ?_; clear k3; rintro e w3 ⟨rfl, hb3⟩; rw [HS.out] at hb3; obtain ⟨c0, c1, c2, c3⟩ := HC.out w3 hb3; have hB3 := HA.out.trans (hb3.mono (Nat.le_succ _)))
      | (go_at_call 25; refine (kl _ hB3).mono ?_; clear kl; rintro e w4 ⟨V4, rfl, hV4, hb4⟩; obtain ⟨a4, c4, e4, -⟩ := hV4.ex; subst e4; have hB4 := hB3.trans (hb4.mono hB3.size); have hb4' := hb3.trans (hb4.mono (by have := hb3.size; rw [HS.out] at this; exact this)); have HS4 : Hid (w.heap.size + 1 ≤ w4.heap.size) := (by have := hb4'.size; rw [HS.out] at this; exact this); obtain ⟨d0, d1, d2, d3⟩ := HC.out w4 hb4')
      | fail)
    clear hb4 hB3 hb3 c0 c1 c2 c3
  all_goals
    have HK4 : Hid (∀ W, Below w4.heap.size w4 W → W.cell? ⟨w.heap.size, 0, none⟩ = some (.int .i64 st)) := fun W hW => (HC.out W (hb4'.trans (hW.mono HS4.out))).1
    have HB4 : Hid (Below w.heap.size w w4) := hB4
    have HV4 : Hid _ := hV4
    have HBP : Hid _ := hb4'
    clear hV4 hb4' hB4 d0 d1 d2 d3
    have a1 : ¬ 9223372036854775807 < 9 + (dec st).length := by omega
    have a2 : ¬ 9223372036854775807 < 9 + (dec st).length + 1 := by omega
    have a3 : ¬ 9223372036854775807 < 9 + (dec st).length + 1 + (reason st).length := by omega
    refine wp_region_quiet (C := fun W => Below w4.heap.size w4 W) (by kernel_rfl) (by kernel_rfl) ⟨rfl, rfl, rfl, Nat.le_refl _, fun _ _ => rfl⟩ ?_
    dsimp only
    refine Go.Wb.q_valW (v := .pointer (some ⟨w.heap.size, 0, none⟩)) (by kernel_rfl) (fun W _ => by go_simp) ?_
    try simp only [Act.put, List.setIfInBounds_toArray, List.set_cons_zero, List.set_cons_succ]
    refine Go.Wb.q_valW (v := .int .i64 st) (by kernel_rfl) (fun W hW => by have c := HK4.out W hW; go_simp) ?_
    try simp only [Act.put, List.setIfInBounds_toArray, List.set_cons_zero, List.set_cons_succ]
    refine Go.Wb.q_callW (v := .string ⟨(dec st).toArray⟩) (f := 26) (args := #[.int .i64 st]) (by kernel_rfl) (fun _ _ => by kernel_rfl) (fun W hW => (kI W (HB4.out.trans (hW.mono HB4.out.size))).mono fun _ _ ⟨h2, h3⟩ => ⟨h2, hW.trans (h3.mono hW.size)⟩) ?_
    try simp only [Act.put, List.setIfInBounds_toArray, List.set_cons_zero, List.set_cons_succ]
    refine Go.Wb.q_valW (v := .string ((⟨#[72, 84, 84, 80, 47, 49, 46, 49, 32]⟩ : ByteArray) ++ ⟨(dec st).toArray⟩)) (by kernel_rfl) (fun W _ => by go_simp) ?_
    try simp only [Act.put, List.setIfInBounds_toArray, List.set_cons_zero, List.set_cons_succ]
    refine Go.Wb.q_valW (v := .string ((⟨#[72, 84, 84, 80, 47, 49, 46, 49, 32]⟩ : ByteArray) ++ ⟨(dec st).toArray⟩ ++ ⟨#[32]⟩)) (by kernel_rfl) (fun W _ => by go_simp) ?_
    try simp only [Act.put, List.setIfInBounds_toArray, List.set_cons_zero, List.set_cons_succ]
    refine Go.Wb.q_valW (v := .pointer (some ⟨w.heap.size, 0, none⟩)) (by kernel_rfl) (fun W _ => by go_simp) ?_
    try simp only [Act.put, List.setIfInBounds_toArray, List.set_cons_zero, List.set_cons_succ]
    refine Go.Wb.q_valW (v := .int .i64 st) (by kernel_rfl) (fun W hW => by have c := HK4.out W hW; go_simp) ?_
    try simp only [Act.put, List.setIfInBounds_toArray, List.set_cons_zero, List.set_cons_succ]
    refine Go.Wb.q_callW (v := .string ⟨(reason st).toArray⟩) (f := 27) (args := #[.int .i64 st]) (by kernel_rfl) (fun _ _ => by kernel_rfl) (fun W hW => (kR W).mono fun _ _ ⟨h2, h3⟩ => ⟨h2, by rw [h3]; exact hW⟩) ?_
    try simp only [Act.put, List.setIfInBounds_toArray, List.set_cons_zero, List.set_cons_succ]
    refine Go.Wb.q_valW (v := .string ((⟨#[72, 84, 84, 80, 47, 49, 46, 49, 32]⟩ : ByteArray) ++ ⟨(dec st).toArray⟩ ++ ⟨#[32]⟩ ++ ⟨(reason st).toArray⟩)) (by kernel_rfl) (fun W _ => by go_simp) ?_
    try simp only [Act.put, List.setIfInBounds_toArray, List.set_cons_zero, List.set_cons_succ]
    refine Go.Wb.q_valW (v := .string ((⟨#[72, 84, 84, 80, 47, 49, 46, 49, 32]⟩ : ByteArray) ++ ⟨(dec st).toArray⟩ ++ ⟨#[32]⟩ ++ ⟨(reason st).toArray⟩)) (by kernel_rfl) (fun _ _ => by kernel_rfl) ?_
    try simp only [Act.put, List.setIfInBounds_toArray, List.set_cons_zero, List.set_cons_succ]
    refine wpQuiet_nil ?_
    intro W5 hW5
    have hBP5 := HBP.out.trans (hW5.mono HS4.out)
    have hB5 := HB4.out.trans (hW5.mono HB4.out.size)
    have hV5 := hV.below hB5
    have hV45 := HV4.out.below hW5
    have HY5 : Hid (∀ W, Below w.heap.size w W → Bs W (.slice adY body.length capY) body) := fun W hW => hY.below hW hYl
    have HSZ5 : Hid (w.heap.size + 1 ≤ W5.heap.size) := (by have := hBP5.size; rw [HS.out] at this; exact this)
    have HK5 : Hid (∀ W, Below W5.heap.size W5 W → W.cell? ⟨w.heap.size, 1, none⟩ = some (.slice adV L.length capV) ∧ W.cell? ⟨w.heap.size, 2, none⟩ = some (.slice adY body.length capY) ∧ W.cell? ⟨w.heap.size, 3, none⟩ = some (.bool last)) := fun W hW => (HC.out W (hBP5.trans (hW.mono HSZ5.out))).2
    have HB5 : Hid (Below w.heap.size w W5) := hB5
    have HV5 : Hid (Hs W5 (.slice adV L.length capV) L) := hV5
    have HV45 : Hid (Hs W5 _ (lenH dec st body)) := hV45
    have kLa := Tryz.lastOf_any last
    obtain ⟨c1, c2, c3⟩ := HK5.out W5 (Below.refl _ _)
    clear hV5 hV45 hB5 hBP5 hW5 HK4 HBP HB4 HV4 kI kR a1 a2 a3 k1 k2 hV hY
    have HYL : Hid (∀ k, (Value.slice adY body.length capY).ownBlock = some k → k < w.heap.size) := hYl
    have HLN : Hid (prLine dec st = [72, 84, 84, 80, 47, 49, 46, 49, 32] ++ dec st ++ [32] ++ reason st) := rfl
    have HLLN : Hid ((prLine dec st).length ≤ 100) := (by show (prLine dec st).length ≤ 100; rw [HLN.out]; simp only [List.length_append, List.length_cons, List.length_nil]; omega)
    rw [cat3, ← HLN.out]
    generalize hLN : prLine dec st = LN at *
    have HLNE : Hid (prLine dec st = LN) := hLN
    clear hLN
    clear hYl HLN hrl hdl
    go_upto_region 8 with (fail)
    have HT : Hid (∀ M : List (List UInt8 × List UInt8), M.length ≤ 1 → L.length + (lenH dec st body).length + M.length ≤ 4398046511104) := fun M hM => (by omega)
    have HLA : Hid (∀ x ∈ L ++ lenH dec st body ++ (if last then [(sCo, wClose)] else []), x.1.length ≤ 140737488355328 ∧ x.2.length ≤ 140737488355328) := fun x hx => by
      have hdb := HDB.out
      rcases List.mem_append.1 hx with hx | hx
      · rcases List.mem_append.1 hx with hx | hx
        · exact HLL.out x hx
        · rw [HH.out] at hx
          simp at hx
          try (subst hx; exact ⟨by show (14 : Nat) ≤ _; omega, by show (dec body.length).length ≤ _; omega⟩)
      · split at hx
        · simp at hx; subst hx; exact ⟨by decide, by decide⟩
        · simp at hx
    have HPH : Hid (prHeads dec st L body last = L ++ lenH dec st body ++ (if last then [(sCo, wClose)] else [])) := rfl
    have HLB : Hid (L.length + (lenH dec st body).length + (if last then [(sCo, wClose)] else [] : List (List UInt8 × List UInt8)).length ≤ 9223372036854775807) := Nat.le_trans (HT.out _ (by split <;> simp)) (by omega)
    have HBY : Hid (body.length ≤ 140737488351232) := hb
    have HL1 : Hid ((if last then [(sCo, wClose)] else [] : List (List UInt8 × List UInt8)).length ≤ 1) := (by show _ ≤ _; split <;> simp)
    generalize (if last then [(sCo, wClose)] else [] : List (List UInt8 × List UInt8)) = LA at *
    generalize lenH dec st body = LH at *
    clear hlen1
    go_region_held3 (fun W => W.cell? ⟨w.heap.size, 1, none⟩ = some (.slice adV L.length capV) ∧ W.cell? ⟨w.heap.size, 2, none⟩ = some (.slice adY body.length capY) ∧ W.cell? ⟨w.heap.size, 3, none⟩ = some (.bool last)) (first | exact ⟨c1, c2, c3⟩ | exact dd | exact hal _ | exact gg | exact jj) (first
      | (go_at_call 30; refine (kLa _).mono ?_; rintro e w6 ⟨V6, rfl, hV6, hb6⟩; obtain ⟨a6, c6, e6, -⟩ := hV6.ex; subst e6; have hB6 : Below W5.heap.size W5 w6 := ((Below.refl _ W5).drew).trans hb6; have dd := HK5.out w6 hB6; have hal : ∀ o, (w6.alloc o).cell? ⟨w.heap.size, 1, none⟩ = some (.slice adV L.length capV) ∧ (w6.alloc o).cell? ⟨w.heap.size, 2, none⟩ = some (.slice adY body.length capY) ∧ (w6.alloc o).cell? ⟨w.heap.size, 3, none⟩ = some (.bool last) := (fun o => HK5.out _ (hB6.alloc hB6.size o)); have kc := Tryz.concat3 (HV5.out.below hB6) (HV45.out.below hB6) hV6 (HT.out _ HL1.out); have HB6 : Hid _ := hB6; clear hb6 hB6 hV6)
      | (go_at_call 29; refine kc.mono ?_; clear kc; rintro e w7 ⟨V7, rfl, hH7, hb7⟩; have hB7 : Below W5.heap.size W5 w7 := HB6.out.trans (hb7.mono HB6.out.size); have gg := HK5.out w7 hB7; have kp := Tryz.printed_any hH7 (HY5.out w7 (HB5.out.trans (hB7.mono HB5.out.size))) (fun k e => Nat.lt_of_lt_of_le (HYL.out k e) (Nat.le_trans HB5.out.size hB7.size)) LN (Nat.le_trans HLLN.out (by omega)) HLA.out (by rw [List.length_append, List.length_append]; exact HLB.out) HBY.out; obtain ⟨a7, c7, e7, -⟩ := hH7.ex; obtain ⟨n7, hn7⟩ : ∃ n, n = (L ++ LH ++ LA).length := ⟨_, rfl⟩; rw [← hn7] at e7; subst e7; clear hn7; have HB7 : Hid _ := hB7; clear hb7 hB7 hH7)
      | (go_at_call 28; refine kp.mono ?_; clear kp; rintro e w8 ⟨hb8, h8⟩; have hB8 : Below W5.heap.size W5 w8 := HB7.out.trans (hb8.mono HB7.out.size); have jj := HK5.out w8 hB8; obtain ⟨R8, n8, rfl, h9⟩ : ∃ R n, e = .returned (.tuple #[R, .int .i64 n]) ∧ ((printedOk LN (L ++ LH ++ LA) ∧ n = 0 ∧ Og w8 w7.heap.size R (printedT LN (L ++ LH ++ LA) body)) ∨ (¬ printedOk LN (L ++ LH ++ LA) ∧ R = .slice none 0 0 ∧ n = 181)) := (by rcases h8 with ⟨q1, R, q2, q3⟩ | ⟨q1, q2⟩; exact ⟨R, 0, q2, .inl ⟨q1, rfl, q3⟩⟩; exact ⟨_, 181, q2, .inr ⟨q1, rfl, rfl⟩⟩); have H9 : Hid _ := h9; have HB8 : Hid _ := hB8; clear h8 hb8 h9 hB8)
      | fail)
    all_goals
      go_wp2
      go_ret2
      rw [HPH.out, HLNE.out]
      refine ⟨HB5.out.trans (HB8.out.mono HB5.out.size), ?_⟩
      rcases H9.out with ⟨q1, rfl, q3⟩ | ⟨q1, rfl, rfl⟩
      · exact .inl ⟨q1, R8, rfl, q3.mono (Nat.le_trans HB5.out.size HB7.out.size)⟩
      · exact .inr ⟨q1, rfl⟩
end Go.Proofs
namespace Go.Wb
open Go.RowKit Go.Proofs
def shIn : List UInt8 := [71, 69, 84, 32, 47, 97, 32, 72, 84, 84, 80, 47, 49, 46, 49, 13, 10, 72, 111, 115, 116, 58, 32, 120, 13, 10, 13, 10, 71, 69, 84, 32, 32, 47]
def shOut : List UInt8 := [72, 84, 84, 80, 47, 49, 46, 49, 32, 50, 48, 48, 32, 79, 75, 13, 10, 99, 111, 110, 116, 101, 110, 116, 45, 108, 101, 110, 103, 116, 104, 58, 32, 50, 13, 10, 99, 111, 110, 110, 101, 99, 116, 105, 111, 110, 58, 32, 99, 108, 111, 115, 101, 13, 10, 13, 10, 104, 105]
theorem sh_fd1 : (fd (newReq 0) shIn).1 = [⟨[71, 69, 84], [47, 97], [([104, 111, 115, 116], [120])], [], false⟩] := by kernel_rfl
theorem sh_fd2 : (fd (newReq 0) shIn).2.fErr = 180 := by kernel_rfl
theorem sh_rd : (rd newRes shOut).2 = 59 ∧ whole (rd newRes shOut).1 = true ∧ (rd newRes shOut).1.body = [104, 105] ∧ (rd newRes shOut).1.fErr = 0 := by refine ⟨?_, ?_, ?_, ?_⟩ <;> kernel_rfl
theorem sh_pr : printedT (prLine Lib.itoa 200) (prHeads Lib.itoa 200 [] [104, 105] true) [104, 105] = shOut := by kernel_rfl
theorem sh_ok : printedOk (prLine Lib.itoa 200) (prHeads Lib.itoa 200 [] [104, 105] true) := ⟨Nat.le_of_ble_eq_true (by kernel_rfl), Nat.le_of_ble_eq_true (by kernel_rfl)⟩
theorem sh_may : mayPrint 200 [] [104, 105] = true := by kernel_rfl
end Go.Wb
namespace Go.Proofs
open Go.RowKit Go.Wi Go.Wb
/-- Itoa, wherever its table lies as it did. -/
theorem Tryz.itoa_any {w : World} (htab : Lib.TabIs Tryz.prog w "internal/strconv.uint64pow10" .u64 Lib.pow10Tab) (n : Int) (W : World) (h0 : 0 ≤ n) (h1 : n ≤ 9223372036854775807) (hW : Below w.heap.size w W) :
    Calls Tryz.prog 26 #[.int .i64 n] W fun e w' => e = .returned (.string ⟨(Lib.itoa n).toArray⟩) ∧ Below W.heap.size W w' :=
  (Tryz.strconv_Itoa n (by omega) h1 W (Lib.tabBelow_of_tabIs htab W hW)).mono fun _ _ ⟨e, k, os, e2⟩ => ⟨e, by rw [e2]; exact Lib.below_grow _ W (Nat.le_refl _) k os⟩
theorem Wb.bs_const (w : World) (T : TypeId) (l : List UInt8) (m : Nat × Nat) : Bs (w.alloc (.cells (Lib.byteCells l).toArray T m)) (.slice (some ⟨w.heap.size, 0, none⟩) l.length l.length) l := by
  refine ⟨some ⟨w.heap.size, 0, none⟩, l.length, rfl, Nat.le_refl _, (fun e => by cases e), .inr ⟨w.heap.size, 0, rfl, by simp, fun j u hu => ?_⟩⟩
  rw [Nat.zero_add, World.cell?_alloc_mark]
  simpa using hu
set_option maxRecDepth 20000 in
set_option maxHeartbeats 2000000 in
theorem Tryz.shown_any {w : World} (htab : Lib.TabIs Tryz.prog w "internal/strconv.uint64pow10" .u64 Lib.pow10Tab) :
    Calls Tryz.prog 7 #[] w fun e w' => e = .returned (.bool true) ∧ Below w.heap.size w w' := by
  have k0 := Tryz.newParser_any w
  have HTAB : Hid _ := htab
  clear htab
  have hcc := fun W => Lib.run_convert_bytes_const (P := Tryz.prog) W 26 5 #[.int .u8 71, .int .u8 69, .int .u8 84, .int .u8 32, .int .u8 47, .int .u8 97, .int .u8 32, .int .u8 72, .int .u8 84, .int .u8 84, .int .u8 80, .int .u8 47, .int .u8 49, .int .u8 46, .int .u8 49, .int .u8 13, .int .u8 10, .int .u8 72, .int .u8 111, .int .u8 115, .int .u8 116, .int .u8 58, .int .u8 32, .int .u8 120, .int .u8 13, .int .u8 10, .int .u8 13, .int .u8 10, .int .u8 71, .int .u8 69, .int .u8 84, .int .u8 32, .int .u8 32, .int .u8 47] 34 34 Tryz.underlying26 Tryz.underlying5
  have hcd := fun W => Lib.run_convert_bytes_const (P := Tryz.prog) W 26 5 #[.int .u8 104, .int .u8 105] 2 2 Tryz.underlying26 Tryz.underlying5
  have KF : Hid (∀ (w1 : World) (b : Nat), Tryz.Ms 82 w1 (fun k => k = b) b (newReq 0) → Calls Tryz.prog 15 #[.pointer (some ⟨b, 0, none⟩), .slice (some ⟨w1.heap.size, 0, none⟩) 34 34] (w1.alloc (.cells #[.int .u8 71, .int .u8 69, .int .u8 84, .int .u8 32, .int .u8 47, .int .u8 97, .int .u8 32, .int .u8 72, .int .u8 84, .int .u8 84, .int .u8 80, .int .u8 47, .int .u8 49, .int .u8 46, .int .u8 49, .int .u8 13, .int .u8 10, .int .u8 72, .int .u8 111, .int .u8 115, .int .u8 116, .int .u8 58, .int .u8 32, .int .u8 120, .int .u8 13, .int .u8 10, .int .u8 13, .int .u8 10, .int .u8 71, .int .u8 69, .int .u8 84, .int .u8 32, .int .u8 32, .int .u8 47] 5 (34, 34 + 1))) fun e w' => ∃ ad n cap ev own', e = .returned (.tuple #[.slice ad n cap, ev]) ∧ Tryz.Fed (fun k => k = b) (w1.alloc (.cells #[.int .u8 71, .int .u8 69, .int .u8 84, .int .u8 32, .int .u8 47, .int .u8 97, .int .u8 32, .int .u8 72, .int .u8 84, .int .u8 84, .int .u8 80, .int .u8 47, .int .u8 49, .int .u8 46, .int .u8 49, .int .u8 13, .int .u8 10, .int .u8 72, .int .u8 111, .int .u8 115, .int .u8 116, .int .u8 58, .int .u8 32, .int .u8 120, .int .u8 13, .int .u8 10, .int .u8 13, .int .u8 10, .int .u8 71, .int .u8 69, .int .u8 84, .int .u8 32, .int .u8 32, .int .u8 47] 5 (34, 34 + 1))) w' b (fd (newReq 0) shIn).2 (.slice ad n cap) ev (fd (newReq 0) shIn).1 own') := fun w1 b hM => by
    have hbA : Below w1.heap.size w1 (w1.alloc (.cells #[.int .u8 71, .int .u8 69, .int .u8 84, .int .u8 32, .int .u8 47, .int .u8 97, .int .u8 32, .int .u8 72, .int .u8 84, .int .u8 84, .int .u8 80, .int .u8 47, .int .u8 49, .int .u8 46, .int .u8 49, .int .u8 13, .int .u8 10, .int .u8 72, .int .u8 111, .int .u8 115, .int .u8 116, .int .u8 58, .int .u8 32, .int .u8 120, .int .u8 13, .int .u8 10, .int .u8 13, .int .u8 10, .int .u8 71, .int .u8 69, .int .u8 84, .int .u8 32, .int .u8 32, .int .u8 47] 5 (34, 34 + 1))) := (Below.refl _ w1).alloc (Nat.le_refl _) _
    obtain ⟨aw, cw, ah, ch, ab, cb, hmw⟩ := hM.ex
    have hlt := hmw.lt b rfl
    exact Tryz.feed_any (hM.below hbA) (good_newReq 0) (V := .slice (some ⟨w1.heap.size, 0, none⟩) 34 34) (l := shIn) (Wb.bs_const w1 5 shIn (34, 34 + 1)) (fun k e => by cases e; exact ⟨fun e => by have e2 : w1.heap.size = b := e; omega, by simp⟩) (by decide) (by decide)
  go_enter Tryz.func7, Tryz.ntmps7
  go_upto_region 5 with (first
    | (go_at_call 12; refine k0.mono ?_; clear k0; rintro e w1 ⟨b, rfl, hb0, hM, hb1⟩; have kf := KF.out w1 b hM; clear KF)
    | (go_at_call 15; refine kf.mono ?_; clear kf hcc; rintro e w2 ⟨ad, n, cap, ev, own', rfl, hF⟩)
    | fail)
  have hrl := hF.rl
  rw [sh_fd1] at hrl
  obtain ⟨gl, capl, p, eV, hgl, -, hpq, hat⟩ := Tryz.rl_at hrl (i := 0) (by decide)
  injection eV with eV1 eV2 eV3
  subst eV1 eV2 eV3
  have hpq2 : p.rq = ⟨[71, 69, 84], [47, 97], [([104, 111, 115, 116], [120])], [], false⟩ := hpq
  obtain ⟨gh, oh, ch, ehv, hgh, hh⟩ : ∃ gh oh ch, p.vh = .slice (some ⟨gh, oh, none⟩) 1 ch ∧ gh < w2.heap.size ∧ w2.cell? ⟨gh, oh, none⟩ = some (.string ⟨#[104, 111, 115, 116]⟩) ∧ w2.cell? ⟨gh, oh + 1, none⟩ = some (.string ⟨#[120]⟩) := by
    have hH := Hs.ofRow hat.ok.heads
    rw [hpq2] at hH
    obtain ⟨ad, cc, e1, e2⟩ := hH.ex
    rcases e2 with e2 | ⟨g, o, e3, hg, hc⟩
    · cases e2
    · subst e3
      exact ⟨g, o, cc, e1, hg, hc 0 (by decide)⟩
  obtain ⟨ge, rfl⟩ : ∃ ge, ev = .iface 84 (.pointer (some ⟨ge, 0, none⟩)) := by
    rcases hF.err with ⟨e0, _⟩ | ⟨_, ge, e, _⟩
    · rw [sh_fd2] at e0; cases e0
    · exact ⟨ge, e⟩
  have HK : Hid (∀ W, Below w2.heap.size w2 W → W.cell? ⟨gl, 0, none⟩ = some (.string ⟨#[71, 69, 84]⟩) ∧ W.cell? ⟨gl, 1, none⟩ = some (.string ⟨#[47, 97]⟩) ∧ W.cell? ⟨gl, 2, none⟩ = some (.slice (some ⟨gh, oh, none⟩) 1 ch) ∧ W.cell? ⟨gh, oh, none⟩ = some (.string ⟨#[104, 111, 115, 116]⟩) ∧ W.cell? ⟨gh, oh + 1, none⟩ = some (.string ⟨#[120]⟩)) := fun W hW => by
    have c0 := hat.c0
    have c1 := hat.c1
    have c2 := hat.c2
    rw [hpq2] at c0 c1
    rw [ehv] at c2
    exact ⟨(hW.cell (p := ⟨gl, 0, none⟩) hgl).trans c0, (hW.cell (p := ⟨gl, 1, none⟩) hgl).trans c1, (hW.cell (p := ⟨gl, 2, none⟩) hgl).trans c2, (hW.cell (p := ⟨gh, oh, none⟩) hgh).trans hh.1, (hW.cell (p := ⟨gh, oh + 1, none⟩) hgh).trans hh.2⟩
  have hB2 : Below w.heap.size w w2 := Wo.toBelow (hb1.alloc hb1.size _) hF.wo (fun k e => by rw [e]; exact hb0) (by have := hb1.size; simp; omega)
  have HB2 : Hid _ := hB2
  have kp : Calls Tryz.prog 8 #[.agg #[.int .i64 200, .slice none 0 0, .slice (some ⟨w2.heap.size, 0, none⟩) 2 2, .bool true]] (w2.alloc (.cells #[.int .u8 104, .int .u8 105] 5 (2, 2 + 1))) fun e w' => ∃ R, e = .returned (.tuple #[R, .int .i64 0]) ∧ Og w' 0 R shOut ∧ Below w2.heap.size w2 w' := by
    have hb : Below w2.heap.size w2 (w2.alloc (.cells #[.int .u8 104, .int .u8 105] 5 (2, 2 + 1))) := (Below.refl _ w2).alloc (Nat.le_refl _) _
    have hsz : (w2.alloc (.cells #[.int .u8 104, .int .u8 105] 5 (2, 2 + 1))).heap.size = w2.heap.size + 1 := by simp
    refine (Tryz.printResponse_yes (V := .slice none 0 0) (L := []) (body := [104, 105]) Lib.itoa 200 true ⟨⟨none, 0, rfl, .inl rfl⟩, .inl rfl⟩ (Wb.bs_const w2 5 [104, 105] (2, 2 + 1)) (fun k e => by cases e; simp) (fun x hx => by cases hx) (by decide) (by decide) (fun n W h0 h1 hW => Tryz.itoa_any HTAB.out n W h0 h1 (hB2.trans ((hb.trans (hW.mono hb.size)).mono hB2.size))) (fun n h0 h1 => by have := Lib.itoa_length_le n (by omega) h1; omega) sh_may).mono ?_
    rintro e w' ⟨hb', h⟩
    rcases h with ⟨_, R, e1, e2⟩ | ⟨q, _⟩
    · rw [sh_pr] at e2
      exact ⟨R, e1, e2.mono (Nat.zero_le _), hb.trans (hb'.mono hb.size)⟩
    · exact absurd sh_ok q
  have KQ : Hid (∀ (W : World) (R : Value), Og W 0 R shOut → Calls Tryz.prog 9 #[R] W fun e w' => ∃ st ah nh ch' ab cb lst, e = .returned (.tuple #[.agg #[.int .i64 st, .slice ah nh ch', .slice ab 2 cb, .bool lst], .int .i64 59, .nilIface]) ∧ Bs w' (.slice ab 2 cb) [104, 105] ∧ (∀ k, (Value.slice ab 2 cb).ownBlock = some k → k < w'.heap.size) ∧ Below W.heap.size W w') := fun W R hO => by
    refine (Tryz.parse_any hO.bs (fun k e => (hO.lt k e).2) (by rw [sh_rd.1]; decide) (by decide)).mono ?_
    rintro e w' ⟨⟨ah, ch', ab, cb, ev, he, hx, hev⟩, hb⟩
    obtain ⟨s1, s2, s3, s4⟩ := sh_rd
    rw [s2, if_pos rfl, if_pos rfl, s1, s3] at he
    obtain ⟨x1, x2, x3⟩ := hx s2
    rw [s3] at x2
    rcases hev with ⟨_, rfl⟩ | ⟨q, _⟩
    · exact ⟨_, _, _, _, ab, cb, _, he, Bs.ofRow x2, fun k e => (x2.lt k e).2, hb⟩
    · exact absurd s4 q
  clear hrl hat hpq hpq2 ehv hgh hh hF hB2 hb0 hM hb1
  go_upto_region 7 with (first
    | (go_at_call 8; refine kp.mono ?_; clear kp hcd; rintro e w3 ⟨R, rfl, hO, hb3⟩; have kq := KQ.out w3 R hO; clear KQ; have HO : Hid (Og w3 0 R shOut) := hO; obtain ⟨gR, cR, eR, -⟩ := hO; subst eR)
    | (go_at_call 9; refine kq.mono ?_; clear kq; rintro e w4 ⟨st, ah, nh, ch', ab, cb, lst, rfl, hbs4, hlt4, hb4⟩)
    | fail)
  have hn5 := heap_alloc_new w4 (.cells #[.int .i64 st, .slice ah nh ch', .slice ab 2 cb, .bool lst] 31)
  have hb5 : Below w4.heap.size w4 (w4.alloc (.cells #[.int .i64 st, .slice ah nh ch', .slice ab 2 cb, .bool lst] 31)) := (Below.refl _ w4).alloc (Nat.le_refl _) _
  generalize w4.alloc (.cells #[.int .i64 st, .slice ah nh ch', .slice ab 2 cb, .bool lst] 31) = W5 at *
  have hB35 : Below w3.heap.size w3 W5 := hb4.trans (hb5.mono hb4.size)
  have hB25 : Below w2.heap.size w2 W5 := hb3.trans (hB35.mono hb3.size)
  obtain ⟨c0, c1, c2, h0, h1⟩ := HK.out W5 hB25
  have v1 : (convert 26 9 (.slice (some ⟨gR, 0, none⟩) shOut.length cR)).run Tryz.prog W5 = .ok (.string ⟨shOut.toArray⟩) W5 := Tryz.conv_bs ((HO.out.bs).below hB35 fun k e => (HO.out.lt k e).2)
  have v2 : (convert 26 9 (.slice ab 2 cb)).run Tryz.prog W5 = .ok (.string ⟨#[104, 105]⟩) W5 := Tryz.conv_bs (hbs4.below hb5 hlt4)
  have c5 : W5.cell? ⟨w4.heap.size, 2, none⟩ = some (.slice ab 2 cb) := cell_of_row _ _ 2 _ _ _ hn5
  have e59 : shOut.length = 59 := rfl
  have HB : Hid (Below w.heap.size w W5) := HB2.out.trans (hB25.mono HB2.out.size)
  rw [e59] at v1 ⊢
  unfold shOut at v1
  clear HK HO hn5 hb5 hb4 hb3 hB35 hB25 HB2 hbs4 hlt4 hgl e59 HTAB
  have heq := Tryz.eqHd W5 ⟨#[104, 111, 115, 116]⟩ ⟨#[120]⟩
  go_wp2
  go_ret
  exact ⟨rfl, HB.out⟩
end Go.Proofs
namespace Go.Wb
theorem flat_next {α : Type} {L : List (List α)} {i : Nat} (hi : i < L.length) : (L.take (i + 1)).flatten = (L.take i).flatten ++ L[i] := by
  rw [List.take_add_one, List.getElem?_eq_getElem hi, List.flatten_append]
  simp
theorem flat_len {α : Type} (L : List (List α)) (i : Nat) : (L.take i).flatten.length ≤ L.flatten.length := by
  conv => rhs; rw [← List.take_append_drop i L, List.flatten_append, List.length_append]
  omega
theorem flat_all {α : Type} {L : List (List α)} {i : Nat} (hi : L.length ≤ i) : (L.take i).flatten = L.flatten := by rw [List.take_of_length_le hi]
end Go.Wb
namespace Go.Proofs
open Go.RowKit Go.Wi Go.Wb
theorem Tryz.conv_text (s : List UInt8) (W : World) : (convert 9 26 (.string ⟨s.toArray⟩)).run Tryz.prog W = .ok (.slice (some ⟨W.heap.size, 0, none⟩) s.length (grownCap W s.length 0 5)) (Lib.bytesWorld W 5 ⟨s.toArray⟩) := by
  have := Lib.run_convert_string_bytes (P := Tryz.prog) W 9 26 5 ⟨s.toArray⟩ (u := .string) Tryz.underlying9 Tryz.underlying26 Tryz.underlying5
  have e : (⟨s.toArray⟩ : ByteArray).size = s.length := by simp [ByteArray.size]
  rw [e] at this
  exact this
/-- Feed of a text's bytes. -/
theorem Tryz.feed_text {w : World} {own : Nat → Prop} {b : Nat} {m : Msg} (h : Tryz.Ms 82 w own b m) (hG : Wb.Good m) (t : List UInt8) (hat : m.at_ + t.length ≤ 140737488355328) (hll : t.length ≤ 999999999999) :
    Calls Tryz.prog 15 #[.pointer (some ⟨b, 0, none⟩), .slice (some ⟨w.heap.size, 0, none⟩) t.length (grownCap w t.length 0 5)] (Lib.bytesWorld w 5 ⟨t.toArray⟩) fun e w' => ∃ ad n cap ev own', e = .returned (.tuple #[.slice ad n cap, ev]) ∧ Tryz.Fed own (Lib.bytesWorld w 5 ⟨t.toArray⟩) w' b (fd m t).2 (.slice ad n cap) ev (fd m t).1 own' := by
  have hb := bytesW_below w 5 ⟨t.toArray⟩
  have hO := Og.start w 5 ⟨t.toArray⟩ (Nat.le_refl _)
  have e : (⟨t.toArray⟩ : ByteArray).size = t.length := by simp [ByteArray.size]
  rw [e] at hO
  have hl := Tryz.ms_lt h
  exact Tryz.feed_any (h.below hb) hG hO.bs (fun k e => ⟨fun e2 => by have a1 := (hO.lt k e).1; have a2 := hl k e2; omega, (hO.lt k e).2⟩) hat hll
theorem Tryz.fed_ev {own : Nat → Prop} {w w' : World} {b : Nat} {m : Msg} {V ev : Value} {rs : List Rq} {own' : Nat → Prop} (h : Tryz.Fed own w w' b m V ev rs own') : Tryz.Ev w' m ev := by
  rcases h.err with e | ⟨e, g, e1, e2, _⟩
  · exact .inl e
  · exact .inr ⟨e, g, e1, e2⟩
theorem Tryz.ev_below {w w' : World} {m : Msg} {ev : Value} (h : Tryz.Ev w m ev) (hb : Below w.heap.size w w') : Tryz.Ev w' m ev := by
  rcases h with e | ⟨e, g, e1, e2⟩
  · exact .inl e
  · exact .inr ⟨e, g, e1, (hb.block g (block_lt e2)).trans e2⟩
/-- The first parser is fed: what there is then. -/
theorem Tryz.ps_start {w0 w w1 : World} {bp bo : Nat} {mP : Msg} {V ev : Value} {rs : List Rq} {oP : Nat → Prop} (hb : Below w0.heap.size w0 w) (hbp : w0.heap.size ≤ bp) (hbo : w0.heap.size ≤ bo) (hne : bp ≠ bo) (hO : Tryz.Ms 82 w (fun k => k = bo) bo (newReq 0)) (hF : Tryz.Fed (fun k => k = bp) w w1 bp mP V ev rs oP)
    {w2 : World} {VL : Value} {L : List (List UInt8)} (hr : w2.ownsRow w1.heap.size 9 1 VL L.length (strCells L)) (hb2 : Below w1.heap.size w1 w2) :
    Tryz.PS w0 w2 oP (fun k => k = bo) bp bo mP (newReq 0) V VL (.slice none 0 0) rs L [] := by
  have hlo := Tryz.ms_lt hO bo rfl
  have hs := hb.size
  have hnp : ¬ oP bo := fun e => by
    rcases hF.sub bo e with e1 | e1
    · exact hne e1.symm
    · omega
  have hB1 : Below w0.heap.size w0 w1 := Wo.toBelow hb hF.wo (fun k e => by rw [e]; exact hbp) hs
  have hOk : Tryz.Ms 82 w1 (fun k => k = bo) bo (newReq 0) := Tryz.ms_keep hO (fun k e => hF.wo.block k (by rw [e]; exact hlo) (fun e2 => hne (e2.symm.trans e))) hF.wo.size
  refine ⟨hB1.trans (hb2.mono hB1.size), hF.ms.below hb2, hOk.below hb2, fun k e => ⟨?_, fun e2 => hnp (e2 ▸ e), fun e2 => by cases e2⟩, fun k e => ⟨by rw [e]; exact hbo, fun e2 => by cases e2⟩, (hF.rl.keep fun k hk hp => ⟨hb2.block k hk, ?_⟩), row_base hr fun k e => ?_, fun k e => ?_, World.ownsRow_nil _ _ _ _, fun x hx => by cases hx⟩
  · rcases hF.sub k e with e1 | e1
    · rw [e1]; exact hbp
    · omega
  · refine ⟨?_, hp.2, fun e2 => ?_, fun e2 => by cases e2⟩
    · rcases hp.1 with e1 | e1
      · rw [e1]; exact hbp
      · omega
    · rcases hp.1 with e1 | e1
      · exact hne (e1.symm.trans e2)
      · rw [e2] at e1; omega
  · have := (hr.lt k e).1
    have := hB1.size
    omega
  · have h1 := (hr.lt k e).1
    have h2 := hB1.size
    have h3 := hF.wo.size
    exact ⟨by omega, fun e2 => by have := Tryz.ms_lt hF.ms k e2; omega, fun e2 => by rw [e2] at h1; omega, fun e2 => by cases e2⟩
end Go.Proofs
