/-
  Rows of bytes of one's own: 'append' of some bytes; the document's Hex.
-/
import Derived.Test.YtkfmfdnfjeofiaaDoorHe
import Derived.ArgAppend
import Derived.Shelf.Bytes.SlSmallAll
namespace Go.Proofs
open Go.RowKit Go.Wi Go.Dg
theorem Tryd.info8 : (Tryd.prog.info? 5).map (fun i => (i.zero, i.size, i.bytes)) = some (some (.int .u8 0), 1, 1) := by kernel_rfl
end Go.Proofs
namespace Go.Dg
open Go.RowKit Go.Wi
/-- A row of bytes of one's own, above a floor. -/
def Ob (w : World) (B : Nat) (V : Value) (l : List UInt8) : Prop :=
  (V = .slice none 0 0 ∧ l = []) ∨ ∃ g cap, V = .slice (some ⟨g, 0, none⟩) l.length cap ∧ B ≤ g ∧ g < w.heap.size ∧ l.length ≤ cap ∧ (∀ j u, (Lib.byteCells l)[j]? = some u → w.cell? ⟨g, j, none⟩ = some u) ∧ ∀ j, j < cap → (w.cell? ⟨g, j, none⟩).isSome = true ∧ w.frozen? ⟨g, j, none⟩ = false
theorem Ob.nil (w : World) (B : Nat) : Ob w B (.slice none 0 0) [] := .inl ⟨rfl, rfl⟩
theorem Ob.ofRow {w : World} {B n : Nat} {T : TypeId} {V : Value} {l : List UInt8} (h : w.ownsRow B T 1 V n (Lib.byteCells l)) : Ob w B V l := by
  have hn : n = l.length := by have := h.1; rw [byteCells_len] at this; omega
  subst hn
  rcases h.2 with ⟨h1, h2⟩ | ⟨g, cap, cur, rfl, hB, hg, h3, h4, h5, h6⟩
  · exact .inl ⟨h1, List.eq_nil_of_length_eq_zero h2⟩
  · refine .inr ⟨g, cap, rfl, hB, block_lt hg, h3, fun j u hu => ?_, fun j hj => ⟨?_, frozen_of_row _ _ _ _ _ hg⟩⟩
    · rw [cell_of_row _ _ _ _ _ _ hg]
      rw [← h6, List.getElem?_take] at hu
      split at hu
      · rw [← Array.getElem?_toList]; exact hu
      · cases hu
    · rw [cell_of_row _ _ _ _ _ _ hg, Array.getElem?_eq_getElem (by omega)]; rfl
theorem Ob.keep {w w' : World} {B : Nat} {V : Value} {l : List UInt8} (h : Ob w B V l) (hk : ∀ k, V.ownBlock = some k → w'.heap[k]? = w.heap[k]?) : Ob w' B V l := by
  rcases h with h | ⟨g, cap, rfl, h1, h2, h3, h4, h5⟩
  · exact .inl h
  · have e := hk g rfl
    have e2 : g < w'.heap.size := by
      rw [Array.getElem?_eq_getElem h2] at e
      exact block_lt e
    exact .inr ⟨g, cap, rfl, h1, e2, h3, fun j u hu => (World.cell?_of_block (a := ⟨g, j, none⟩) e).trans (h4 j u hu), fun j hj => ⟨by rw [World.cell?_of_block (a := ⟨g, j, none⟩) e]; exact (h5 j hj).1, (World.frozen?_of_block (a := ⟨g, j, none⟩) e).trans (h5 j hj).2⟩⟩
theorem Ob.lt {w : World} {B : Nat} {V : Value} {l : List UInt8} (h : Ob w B V l) : ∀ k, V.ownBlock = some k → B ≤ k ∧ k < w.heap.size := by
  rcases h with ⟨rfl, _⟩ | ⟨g, cap, rfl, h1, h2, _⟩
  · intro k e; cases e
  · intro k e; cases e; exact ⟨h1, h2⟩
theorem Ob.below {w w' : World} {B C : Nat} {V : Value} {l : List UInt8} (h : Ob w B V l) (g : Below C w w') (hC : w.heap.size ≤ C) : Ob w' B V l := h.keep fun k e => g.block k (Nat.lt_of_lt_of_le (h.lt k e).2 hC)
theorem Ob.alloc {w : World} {B : Nat} {V : Value} {l : List UInt8} (h : Ob w B V l) (o : Obj) : Ob (w.alloc o) B V l := h.below ((Below.refl _ w).alloc (Nat.le_refl _) o) (Nat.le_refl _)
theorem Ob.drew {w : World} {B : Nat} {V : Value} {l : List UInt8} (h : Ob w B V l) : Ob w.drew B V l := h
theorem Ob.drewN {w : World} {B : Nat} {V : Value} {l : List UInt8} (h : Ob w B V l) (n : Nat) : Ob (w.drewN n) B V l := h
theorem Ob.mono {w : World} {B B' : Nat} {V : Value} {l : List UInt8} (h : Ob w B V l) (hB : B' ≤ B) : Ob w B' V l := by
  rcases h with h | ⟨g, cap, rfl, h1, h2⟩
  · exact .inl h
  · exact .inr ⟨g, cap, rfl, Nat.le_trans hB h1, h2⟩
theorem Ob.is {w : World} {B : Nat} {V : Value} {l : List UInt8} (h : Ob w B V l) : ∃ ad cap, V = .slice ad l.length cap := by
  rcases h with ⟨rfl, rfl⟩ | ⟨g, cap, rfl, _⟩
  · exact ⟨none, 0, rfl⟩
  · exact ⟨_, _, rfl⟩
theorem Ob.bs {w : World} {B : Nat} {V : Value} {l : List UInt8} (h : Ob w B V l) : Bs w V l := by
  rcases h with ⟨rfl, rfl⟩ | ⟨g, cap, rfl, h1, h2, h3, h4, h5⟩
  · exact ⟨none, 0, rfl, Nat.le_refl _, fun _ => rfl, .inl rfl⟩
  · exact ⟨some ⟨g, 0, none⟩, cap, rfl, h3, (fun e => by cases e), .inr ⟨g, 0, rfl, h2, fun j u hu => by rw [Nat.zero_add]; exact h4 j u hu⟩⟩
end Go.Dg
namespace Go.Proofs
open Go.RowKit Go.Wi Go.Dg
theorem Dg.setCells_wo (g : Nat) : ∀ (vs : List Value) (o : Nat) (w : World), Wo (fun k => k = g) w (w.setCells g o vs)
  | [], _, w => Wo.refl _ w
  | v :: r, o, w => ((Wo.refl (fun k => k = g) w).setCell g o v (.inl rfl)).trans (Dg.setCells_wo g r (o + 1) _)
/-- 'append' of some bytes, which lie in a block, to a row of one's own. -/
theorem Tryd.app_run (ty : TypeId) {w : World} {B : Nat} {V : Value} {l : List UInt8} (h : Ob w B V l) (hB : B ≤ w.heap.size) (xs : List UInt8) (k g0 : Nat) (hk : k = xs.length) (h0 : 0 < k)
    (hnb : w.heap[g0]? = some (.cells (Lib.byteCells xs).toArray 5 (0, 0))) (hlen : l.length + xs.length ≤ 140737488355328) :
    ∃ ad cap w1, (Builtin.append_ #[24, 24] ty #[V, .slice (some ⟨g0, 0, none⟩) k k]).run Tryd.prog w = .ok (.slice ad (l.length + k : Nat) cap) w1 ∧ Ob w1 B (.slice ad (l.length + k : Nat) cap) (l ++ xs) ∧ Wo (fun k => V.ownBlock = some k) w w1 := by
  subst hk
  obtain ⟨i0, hi0, hz0, hz1, hz2⟩ := info_parts Tryd.info8
  have hone : ∀ u ∈ Lib.byteCells xs, u.oneCell' = true := fun u hu => by
    simp only [Lib.byteCells, List.mem_map] at hu
    obtain ⟨b, _, rfl⟩ := hu
    rfl
  have hnews : ∀ (j : Nat) u, (Lib.byteCells xs)[j]? = some u → w.cell? ((⟨g0, 0, none⟩ : Addr).add j) = some u := World.news_of_block (cs := (Lib.byteCells xs).toArray) hnb
  have grown : ∀ v' w', (w.ownsRow w.heap.size 5 1 v' 0 [] ∨ True) → w'.ownsRow w.heap.size 5 1 v' (l.length + xs.length) (Lib.byteCells l ++ Lib.byteCells xs) → w.grownBy w' none →
      ∃ ad cap, v' = .slice ad (l.length + xs.length : Nat) cap ∧ Ob w' B v' (l ++ xs) ∧ Wo (fun k => V.ownBlock = some k) w w' := by
    intro v' w' _ ho hg
    rw [← byteCells_app] at ho
    have h1 := (Ob.ofRow ho).mono hB
    obtain ⟨ad, cap, e⟩ := h1.is
    rw [List.length_append] at e
    exact ⟨ad, cap, e, h1, (Wo.refl _ w).grown hg fun k e => by cases e⟩
  rcases h with ⟨rfl, rfl⟩ | ⟨g, cap, rfl, h1, h2, h3, h4, h5⟩
  · obtain ⟨v', w', hrun, r1, r2, _⟩ := run_append_own (P := Tryd.prog) w w.heap.size 24 ty 5 i0 _ 1 1 Tryd.underlying24 hi0 hz0 hz1 hz2 rfl (by omega) (.slice none 0 0) 0 [] (World.ownsRow_nil w _ _ _) ⟨g0, 0, none⟩ xs.length xs.length (Lib.byteCells xs) (by rw [byteCells_len]; omega) hnews hone (by simp only [List.length_nil] at hlen; unfold maxLen; omega) (by simp only [List.length_nil] at hlen; omega) (Nat.le_refl _)
    obtain ⟨ad, cap, rfl, g1, g2⟩ := grown v' w' (.inr trivial) r1 r2
    exact ⟨ad, cap, w', hrun, g1, g2⟩
  · by_cases hr : l.length + xs.length ≤ cap
    · have hbl : (Lib.byteCells xs).length = xs.length := byteCells_len xs
      have hsp : ∀ j, j < (Lib.byteCells xs).length → (w.cell? ⟨g, 0 + l.length * i0.size + j, none⟩).isSome = true ∧ w.frozen? ⟨g, 0 + l.length * i0.size + j, none⟩ = false := fun j hj => by
        rw [hz1]
        exact h5 _ (by omega)
      have hrun := run_append_room_cells (P := Tryd.prog) w 24 ty 5 i0 Tryd.underlying24 hi0 g 0 l.length cap ⟨g0, 0, none⟩ xs.length xs.length (Lib.byteCells xs) (by rw [hz1, byteCells_len]; omega) hnews hone hr (fun j hj => (hsp j hj).1) (fun j hj => (hsp j hj).2)
      have hwo := Dg.setCells_wo g (Lib.byteCells xs) (0 + l.length * i0.size) w
      rw [hz1, Nat.zero_add, Nat.mul_one] at hrun hwo
      refine ⟨_, cap, _, hrun, .inr ⟨g, cap, by rw [List.length_append], h1, Nat.lt_of_lt_of_le h2 hwo.size, by rw [List.length_append]; exact hr, fun j u hu => ?_, fun j hj => ⟨World.isSome_setCells g _ _ w _ (h5 j hj).1, by rw [World.frozen?_setCells]; exact (h5 j hj).2⟩⟩, hwo.mono fun k e => by rw [e]; rfl⟩
      rw [byteCells_app] at hu
      have hb1 := byteCells_len l
      by_cases hj : j < l.length
      · rw [World.cell?_setCells_out g _ _ w _ fun _ _ => .inl hj]
        rw [List.getElem?_append_left (by omega)] at hu
        exact h4 j u hu
      · rw [List.getElem?_append_right (by omega), byteCells_len] at hu
        obtain ⟨hj2, e⟩ := List.getElem?_eq_some_iff.1 hu
        have := World.cell?_setCells_in g (Lib.byteCells xs) l.length w (fun i hi => (h5 _ (by omega)).1) (j - l.length) hj2
        rw [show l.length + (j - l.length) = j by omega, e] at this
        exact this
    · obtain ⟨v', w', hrun, r1, r2⟩ := run_append_arg_grows (P := Tryd.prog) w 24 ty 5 i0 _ 1 1 Tryd.underlying24 hi0 hz0 hz1 hz2 rfl (by omega) ⟨g, 0, none⟩ l.length cap (Lib.byteCells l) (by rw [byteCells_len]; omega) (fun j u hj => by rw [Addr.add_mid, Nat.zero_add]; exact h4 j u hj) ⟨g0, 0, none⟩ xs.length xs.length (Lib.byteCells xs) (by rw [byteCells_len]; omega) hnews (by omega) (by unfold maxLen; omega) (by omega)
      obtain ⟨ad, cap', rfl, g1, g2⟩ := grown v' w' (.inr trivial) r1 r2
      exact ⟨ad, cap', w', hrun, g1, g2⟩
theorem Tryd.app_wp {o : Oper} {a : Act} {K : Act → World → Prop} {Q : Exit → Act → World → Prop} (s y : Operand)
    (ho : o.op = .call { callee := .builtin .append, args := #[s, y], argTypes := #[24, 24] })
    {w : World} {B : Nat} {V : Value} {l : List UInt8} (hrow : Ob w B V l) (hB : B ≤ w.heap.size)
    (hs : a.eval s = V) (xs : List UInt8) (k g0 : Nat) (hy : a.eval y = .slice (some ⟨g0, 0, none⟩) k k) (hk : k = xs.length) (h0 : 0 < k) (cs : Array Value) (hcs : cs = (Lib.byteCells xs).toArray) (hnb : w.heap[g0]? = some (.cells cs 5 (0, 0))) (hlen : l.length + xs.length ≤ 140737488355328)
    (hK : ∀ ad cap w1, Ob w1 B (.slice ad (l.length + k : Nat) cap) (l ++ xs) → Wo (fun k => V.ownBlock = some k) w w1 → K (a.put o.dst (.slice ad (l.length + k : Nat) cap)) w1) : o.wp Tryd.prog a w K Q := by
  subst hcs
  obtain ⟨ad, cap, w1, hrun, h1, h2⟩ := Tryd.app_run o.type hrow hB xs k g0 hk h0 hnb hlen
  unfold Oper.wp
  simp [execOp, ho, resolve, invoke, builtin, hs, hy, hrun, Result.andThen]
  exact hK ad cap w1 h1 h2
theorem Tryd.appN {ops : Array Oper} {rest : List Oper} {o : Oper} {a : Act} {Q : Exit → Act → World → Prop} (hgd : o.guard = none) (s y : Operand)
    (ho : o.op = .call { callee := .builtin .append, args := #[s, y], argTypes := #[24, 24] })
    {w : World} {B : Nat} {V : Value} {l : List UInt8} (hrow : Ob w B V l) (hB : B ≤ w.heap.size)
    (hs : a.eval s = V) (xs : List UInt8) (k g0 : Nat) (hy : a.eval y = .slice (some ⟨g0, 0, none⟩) k k) (hk : k = xs.length) (h0 : 0 < k) (cs : Array Value) (hcs : cs = (Lib.byteCells xs).toArray) (hnb : w.heap[g0]? = some (.cells cs 5 (0, 0))) (hlen : l.length + xs.length ≤ 140737488355328)
    (hK : ∀ ad cap w1, Ob w1 B (.slice ad (l.length + k : Nat) cap) (l ++ xs) → Wo (fun k => V.ownBlock = some k) w w1 → wpList Tryd.prog ops Q rest (a.put o.dst (.slice ad (l.length + k : Nat) cap)) w1) : wpList Tryd.prog ops Q (o :: rest) a w :=
  wpList_plain hgd fun _ hk' => Tryd.app_wp s y ho hrow hB hs xs k g0 hy hk h0 cs hcs hnb hlen fun ad cap w1 h1 h2 => hk' _ _ (hK ad cap w1 h1 h2)
/-- The same at a step of a region that draws. -/
theorem Tryd.stepN {ops : Array Oper} {o : Oper} {a : Act} {K : Act → World → Prop} {Q : Exit → Act → World → Prop} {E : Prop} (hgd : o.guard = none) (s y : Operand)
    (ho : o.op = .call { callee := .builtin .append, args := #[s, y], argTypes := #[24, 24] })
    {w : World} {B : Nat} {V : Value} {l : List UInt8} (hrow : Ob w B V l) (hB : B ≤ w.heap.size)
    (hs : a.eval s = V) (xs : List UInt8) (k g0 : Nat) (hy : a.eval y = .slice (some ⟨g0, 0, none⟩) k k) (hk : k = xs.length) (h0 : 0 < k) (cs : Array Value) (hcs : cs = (Lib.byteCells xs).toArray) (hnb : w.heap[g0]? = some (.cells cs 5 (0, 0))) (hlen : l.length + xs.length ≤ 140737488355328)
    (hK : ∀ ad cap w1, Ob w1 B (.slice ad (l.length + k : Nat) cap) (l ++ xs) → Wo (fun k => V.ownBlock = some k) w w1 → K (a.put o.dst (.slice ad (l.length + k : Nat) cap)) w1) :
    if Region.wanted o (yielded ops a.tmps) = true then Oper.wp Tryd.prog o a w K Q else E := by
  have hw : Region.wanted o (yielded ops a.tmps) = true := by simp [Region.wanted, hgd]
  rw [if_pos hw]
  exact Tryd.app_wp s y ho hrow hB hs xs k g0 hy hk h0 cs hcs hnb hlen hK
set_option maxRecDepth 20000 in
/-- As a text. -/
theorem Tryd.conv_bs {W : World} {ad : Option Addr} {n cap : Nat} {l : List UInt8} (h : Bs W (.slice ad n cap) l) : (convert 24 9 (.slice ad n cap)).run Tryd.prog W = .ok (.string ⟨l.toArray⟩) W := by
  obtain ⟨ad', cap', e, hc, hn, h1⟩ := h.ex
  injection e with e1 e2 e3
  subst e1 e2 e3
  rcases h1 with rfl | ⟨g, o, rfl, _, h2⟩
  · exact run_convert_bytes_zero (P := Tryd.prog) _ 24 5 Tryd.underlying24 Tryd.underlying5 ad cap 9 Tryd.underlying9
  · exact run_convert_bytes_back (P := Tryd.prog) W 24 9 5 ⟨g, o, none⟩ cap l Tryd.underlying24 Tryd.underlying5 Tryd.underlying9 (fun j hj => by
      rw [Addr.add_mid]
      exact h2 j _ (by simp [Lib.byteCells, hj]))
/-- A text as bytes. -/
theorem Tryd.conv_sb2 (t : ByteArray) (W : World) : (convert 9 24 (.string t)).run Tryd.prog W = .ok (.slice (some ⟨W.heap.size, 0, none⟩) t.size (grownCap W t.size 0 5)) (Lib.bytesWorld W 5 t) :=
  Lib.run_convert_string_bytes (P := Tryd.prog) W 9 24 5 t (u := .string) Tryd.underlying9 Tryd.underlying24 Tryd.underlying5
theorem Dg.bytesW_below (w : World) (e : TypeId) (t : ByteArray) : Below w.heap.size w (Lib.bytesWorld w e t) := ⟨rfl, rfl, rfl, by rw [Lib.bytesWorld_size]; omega, fun k hk => Lib.bytesWorld_at_old w _ t k hk⟩
theorem Dg.bytesW_ob (w : World) (e : TypeId) (t : ByteArray) {B : Nat} (hB : B ≤ w.heap.size) : Ob (Lib.bytesWorld w e t) B (.slice (some ⟨w.heap.size, 0, none⟩) t.size (grownCap w t.size 0 e)) t.data.toList := by
  have hn := Lib.bytesWorld_at_new w e t
  have hs : (Lib.bytesCells w e t).size = grownCap w t.size 0 e := by
    have := grownCap_ge w t.size 0 e
    simp only [Lib.bytesCells, Array.size_append, Array.size_map, Array.size_replicate]
    show t.size + _ = _
    omega
  refine .inr ⟨w.heap.size, _, rfl, hB, by rw [Lib.bytesWorld_size]; omega, grownCap_ge w t.size 0 e, fun j u hu => ?_, fun j hj => ⟨?_, ?_⟩⟩
  · have hj : j < t.size := by
      have := (List.getElem?_eq_some_iff.1 hu).1
      rw [byteCells_len] at this
      exact this
    have hj2 : j < t.data.toList.length := hj
    rw [Lib.bytesWorld_cell w e t j hj, ← hu]
    simp [Lib.byteCells, List.getElem?_eq_getElem hj2]
  · rw [cell_of_row _ _ _ _ _ _ hn, Array.getElem?_eq_getElem (by omega)]; rfl
  · simp [World.frozen?, hn]
    omega
theorem Dg.digit : ∀ (n : Nat) (h : n < 16), (⟨#[48, 49, 50, 51, 52, 53, 54, 55, 56, 57, 97, 98, 99, 100, 101, 102]⟩ : ByteArray)[n]'h = hexD n := by decide
theorem Dg.hex_len (l : List UInt8) : (hex l).length = 2 * l.length := by
  induction l with
  | nil => rfl
  | cons c l ih => simp only [hex, List.flatMap_cons, List.length_append, List.length_cons, List.length_nil] at ih ⊢; omega
theorem Dg.hex_app (a b : List UInt8) : hex (a ++ b) = hex a ++ hex b := by simp [hex]
theorem Dg.list_len (b : ByteArray) : b.toList.length = b.size := by rw [ByteArray.toList_eq]; rfl
theorem Dg.take_next (b : ByteArray) (i : Nat) (h : i < b.size) : b.toList.take (i + 1) = b.toList.take i ++ [b[i]] := by
  rw [ByteArray.toList_eq, List.take_add_one, List.getElem?_eq_getElem (show i < b.data.toList.length from h)]
  rfl
theorem Dg.bytes_back (b : ByteArray) : (⟨b.toList.toArray⟩ : ByteArray) = b := by rw [ByteArray.toList_eq]
/-- Some bytes more. -/
theorem Dg.ob_step {w wr w1 : World} {V : Value} (hw : Below w.heap.size w wr) {o : Obj} (h1 : Wo (fun k => V.ownBlock = some k) (wr.alloc o).drew w1) {l : List UInt8} (hV : Ob wr w.heap.size V l) : Below w.heap.size w w1 :=
  Wo.toBelow (hw.alloc hw.size o) (w1 := (wr.alloc o)) (Wo.mk h1.os h1.tape h1.output h1.size h1.block) (fun k e => (hV.lt k e).1) (Nat.le_trans hw.size (by simp))
set_option maxRecDepth 20000 in
set_option maxHeartbeats 400000 in
theorem Tryd.refHex_any (b : ByteArray) (hb : 2 * b.size ≤ 140737488355328) (w : World) :
    Calls Tryd.prog 26 #[.string b] w fun e w' => e = .returned (.string ⟨(hex b.toList).toArray⟩) ∧ Below w.heap.size w w' := by
  go_enter Tryd.func26, Tryd.ntmps26
  go_wp2
  go_loopw [4, 5] (fun v iv wr => ∃ (i : Nat), iv = .int .i64 i ∧ i ≤ b.size ∧ (∃ ad cap, v = .slice ad (2 * i : Nat) cap) ∧ Hid (Ob wr w.heap.size v (hex (b.toList.take i))) ∧ Below w.heap.size w wr) (fun _ iv _ => b.size - (intOf iv).toNat)
  case atStart => exact ⟨0, rfl, by omega, ⟨none, 0, rfl⟩, (Ob.nil w _ : Ob w w.heap.size _ []), Below.refl _ w⟩
  case round =>
    obtain ⟨i, rfl, hi, ⟨ad, cap, rfl⟩, Ho, hw⟩ := hrel
    by_cases hlt : i < b.size
    · have q1 : (i : Int) < b.size := by omega
      go_wp2_with (fail)
      obtain ⟨H, hH⟩ : ∃ H : Nat, H = b[i].toNat / 16 := ⟨_, rfl⟩
      obtain ⟨L, hL⟩ : ∃ L : Nat, L = b[i].toNat % 16 := ⟨_, rfl⟩
      have h256 := b[i].toNat_lt
      have e1 : IntKind.u8.wrap ((b[i].toNat : Int) / 16) = (H : Int) := by rw [IntKind.wrap_u8]; omega
      have e2 : (b[i].toNat : Int).tmod 16 = (L : Int) := by rw [Int.tmod_eq_emod_of_nonneg (by omega)]; omega
      have r3 : (0 : Int) ≤ (L : Int) := by omega
      have r1 : (H : Int) < 16 := by omega
      have r2 : (L : Int) < 16 := by omega
      have HH : Hid (H = b[i].toNat / 16) := hH
      have HL : Hid (L = b[i].toNat % 16) := hL
      clear hH hL h256
      have hcs : #[Value.int .u8 ((⟨#[48, 49, 50, 51, 52, 53, 54, 55, 56, 57, 97, 98, 99, 100, 101, 102]⟩ : ByteArray)[H]'(by show _ < 16; omega)).toNat, Value.int .u8 ((⟨#[48, 49, 50, 51, 52, 53, 54, 55, 56, 57, 97, 98, 99, 100, 101, 102]⟩ : ByteArray)[L]'(by show _ < 16; omega)).toNat] = (Lib.byteCells [hexD H, hexD L]).toArray := by
        rw [Dg.digit H (by omega), Dg.digit L (by omega)]
        rfl
      have Hcs : Hid _ := hcs
      have Hlen : Hid ((hex (b.toList.take i)).length + [hexD H, hexD L].length ≤ 140737488355328) := (by show _ ≤ _; rw [Dg.hex_len, List.length_take, Dg.list_len]; simp only [List.length_cons, List.length_nil]; omega)
      have Hsz : Hid (w.heap.size ≤ wr.heap.size) := hw.size
      clear hcs
      go_region_law (first | (refine Tryd.stepN (by rfl) (.tmp 12) (.tmp 25) (by rfl) (B := w.heap.size) (V := .slice ad (2 * i : Nat) cap) (l := hex (b.toList.take i)) (Ho.out.alloc _).drew (by have := Hsz.out; simp; omega) (by rfl) [hexD H, hexD L] 2 wr.heap.size (by rfl) rfl (by decide) _ Hcs.out (heap_alloc_new wr _) Hlen.out ?_; intro ad1 cap1 w1 ho1 hw1) | fail)
      all_goals
        have e9 : (hex (b.toList.take i)).length + 2 = 2 * (i + 1) := by rw [Dg.hex_len, List.length_take, Dg.list_len]; omega
        have hb1 := Dg.ob_step hw hw1 Ho.out
        rw [e9] at ho1 ⊢
        have HO : Hid _ := ho1
        have HB : Hid _ := hb1
        clear ho1 hw1 hb1 Hcs Hlen
        go_wp2
        go_roundw
        case rel =>
          refine ⟨i + 1, by go_num, by omega, ⟨ad1, cap1, rfl⟩, ?_, HB.out⟩
          rw [Dg.take_next b i hlt, Dg.hex_app]
          have := HO.out
          rw [HH.out, HL.out] at this
          exact this
        case measure => simp [intOf]; omega
    · have q1 : ¬ (i : Int) < b.size := by omega
      obtain rfl : i = b.size := by omega
      have hc := Tryd.conv_bs Ho.out.bs
      go_wp2
      go_ret
      rw [List.take_of_length_le (by rw [Dg.list_len]; omega)]
      exact ⟨rfl, hw⟩
end Go.Proofs
