/-
  Laid together by merge.py of Hf Hga.
-/
import Derived.Test.YtlfiebapfgpchaaGreatDoorSqHd
import Derived.ArgAppend
import Derived.Shelf.Bytes.SlSmallAll
import Derived.StillTailTactics
namespace Go.Proofs
open Go.RowKit Go.Wi Go.Dg
theorem Tryz.info8 : (Tryz.prog.info? 5).map (fun i => (i.zero, i.size, i.bytes)) = some (some (.int .u8 0), 1, 1) := by kernel_rfl
end Go.Proofs
namespace Go.Dg
open Go.RowKit Go.Wi
/-- A row of bytes of one's own, above a floor. -/
def Ob (w : World) (B : Nat) (V : Value) (l : List UInt8) : Prop :=
  (V = .slice none 0 0 ∧ l = []) ∨ ∃ g cap, V = .slice (some ⟨g, 0, none⟩) l.length cap ∧ B ≤ g ∧ g < w.heap.size ∧ l.length ≤ cap ∧ (∀ j u, (Lib.byteCells l)[j]? = some u → w.cell? ⟨g, j, none⟩ = some u) ∧ ∀ j, j < cap → (w.cell? ⟨g, j, none⟩).isSome = true ∧ w.frozen? ⟨g, j, none⟩ = false
theorem Ob.nil (w : World) (B : Nat) : Ob w B (.slice none 0 0) [] := .inl ⟨rfl, rfl⟩
theorem Ob.ofRow {w : World} {B n : Nat} {T : TypeId} {V : Value} {l : List UInt8} (h : w.ownsRow B T 1 V n (Lib.byteCells l)) : Ob w B V l := by
  have hn : n = l.length := by have := h.1; rw [byteCells_len] at this; omega
  subst hn
  rcases h.2 with ⟨h1, h2⟩ | ⟨g, cap, cur, rfl, hB, hg, h3, h4, h5, h6⟩
  · exact .inl ⟨h1, List.eq_nil_of_length_eq_zero h2⟩
  · refine .inr ⟨g, cap, rfl, hB, block_lt hg, h3, fun j u hu => ?_, fun j hj => ⟨?_, frozen_of_row _ _ _ _ _ hg⟩⟩
    · rw [cell_of_row _ _ _ _ _ _ hg]
      rw [← h6, List.getElem?_take] at hu
      split at hu
      · rw [← Array.getElem?_toList]; exact hu
      · cases hu
    · rw [cell_of_row _ _ _ _ _ _ hg, Array.getElem?_eq_getElem (by omega)]; rfl
theorem Ob.keep {w w' : World} {B : Nat} {V : Value} {l : List UInt8} (h : Ob w B V l) (hk : ∀ k, V.ownBlock = some k → w'.heap[k]? = w.heap[k]?) : Ob w' B V l := by
  rcases h with h | ⟨g, cap, rfl, h1, h2, h3, h4, h5⟩
  · exact .inl h
  · have e := hk g rfl
    have e2 : g < w'.heap.size := by
      rw [Array.getElem?_eq_getElem h2] at e
      exact block_lt e
    exact .inr ⟨g, cap, rfl, h1, e2, h3, fun j u hu => (World.cell?_of_block (a := ⟨g, j, none⟩) e).trans (h4 j u hu), fun j hj => ⟨by rw [World.cell?_of_block (a := ⟨g, j, none⟩) e]; exact (h5 j hj).1, (World.frozen?_of_block (a := ⟨g, j, none⟩) e).trans (h5 j hj).2⟩⟩
theorem Ob.lt {w : World} {B : Nat} {V : Value} {l : List UInt8} (h : Ob w B V l) : ∀ k, V.ownBlock = some k → B ≤ k ∧ k < w.heap.size := by
  rcases h with ⟨rfl, _⟩ | ⟨g, cap, rfl, h1, h2, _⟩
  · intro k e; cases e
  · intro k e; cases e; exact ⟨h1, h2⟩
theorem Ob.below {w w' : World} {B C : Nat} {V : Value} {l : List UInt8} (h : Ob w B V l) (g : Below C w w') (hC : w.heap.size ≤ C) : Ob w' B V l := h.keep fun k e => g.block k (Nat.lt_of_lt_of_le (h.lt k e).2 hC)
theorem Ob.alloc {w : World} {B : Nat} {V : Value} {l : List UInt8} (h : Ob w B V l) (o : Obj) : Ob (w.alloc o) B V l := h.below ((Below.refl _ w).alloc (Nat.le_refl _) o) (Nat.le_refl _)
theorem Ob.drew {w : World} {B : Nat} {V : Value} {l : List UInt8} (h : Ob w B V l) : Ob w.drew B V l := h
theorem Ob.drewN {w : World} {B : Nat} {V : Value} {l : List UInt8} (h : Ob w B V l) (n : Nat) : Ob (w.drewN n) B V l := h
theorem Ob.mono {w : World} {B B' : Nat} {V : Value} {l : List UInt8} (h : Ob w B V l) (hB : B' ≤ B) : Ob w B' V l := by
  rcases h with h | ⟨g, cap, rfl, h1, h2⟩
  · exact .inl h
  · exact .inr ⟨g, cap, rfl, Nat.le_trans hB h1, h2⟩
theorem Ob.is {w : World} {B : Nat} {V : Value} {l : List UInt8} (h : Ob w B V l) : ∃ ad cap, V = .slice ad l.length cap := by
  rcases h with ⟨rfl, rfl⟩ | ⟨g, cap, rfl, _⟩
  · exact ⟨none, 0, rfl⟩
  · exact ⟨_, _, rfl⟩
theorem Ob.bs {w : World} {B : Nat} {V : Value} {l : List UInt8} (h : Ob w B V l) : Bs w V l := by
  rcases h with ⟨rfl, rfl⟩ | ⟨g, cap, rfl, h1, h2, h3, h4, h5⟩
  · exact ⟨none, 0, rfl, Nat.le_refl _, fun _ => rfl, .inl rfl⟩
  · exact ⟨some ⟨g, 0, none⟩, cap, rfl, h3, (fun e => by cases e), .inr ⟨g, 0, rfl, h2, fun j u hu => by rw [Nat.zero_add]; exact h4 j u hu⟩⟩
end Go.Dg
namespace Go.Proofs
open Go.RowKit Go.Wi Go.Dg
theorem Dg.setCells_wo (g : Nat) : ∀ (vs : List Value) (o : Nat) (w : World), Wo (fun k => k = g) w (w.setCells g o vs)
  | [], _, w => Wo.refl _ w
  | v :: r, o, w => ((Wo.refl (fun k => k = g) w).setCell g o v (.inl rfl)).trans (Dg.setCells_wo g r (o + 1) _)
/-- 'append' of some bytes, which lie in a block, to a row of one's own. -/
theorem Tryz.app_run (ty : TypeId) {w : World} {B : Nat} {V : Value} {l : List UInt8} (h : Ob w B V l) (hB : B ≤ w.heap.size) (xs : List UInt8) (k g0 : Nat) (hk : k = xs.length) (h0 : 0 < k)
    (hnb : w.heap[g0]? = some (.cells (Lib.byteCells xs).toArray 5 (0, 0))) (hlen : l.length + xs.length ≤ 140737488355328) :
    ∃ ad cap w1, (Builtin.append_ #[29, 29] ty #[V, .slice (some ⟨g0, 0, none⟩) k k]).run Tryz.prog w = .ok (.slice ad (l.length + k : Nat) cap) w1 ∧ Ob w1 B (.slice ad (l.length + k : Nat) cap) (l ++ xs) ∧ Wo (fun k => V.ownBlock = some k) w w1 := by
  subst hk
  obtain ⟨i0, hi0, hz0, hz1, hz2⟩ := info_parts Tryz.info8
  have hone : ∀ u ∈ Lib.byteCells xs, u.oneCell' = true := fun u hu => by
    simp only [Lib.byteCells, List.mem_map] at hu
    obtain ⟨b, _, rfl⟩ := hu
    rfl
  have hnews : ∀ (j : Nat) u, (Lib.byteCells xs)[j]? = some u → w.cell? ((⟨g0, 0, none⟩ : Addr).add j) = some u := World.news_of_block (cs := (Lib.byteCells xs).toArray) hnb
  have grown : ∀ v' w', (w.ownsRow w.heap.size 5 1 v' 0 [] ∨ True) → w'.ownsRow w.heap.size 5 1 v' (l.length + xs.length) (Lib.byteCells l ++ Lib.byteCells xs) → w.grownBy w' none →
      ∃ ad cap, v' = .slice ad (l.length + xs.length : Nat) cap ∧ Ob w' B v' (l ++ xs) ∧ Wo (fun k => V.ownBlock = some k) w w' := by
    intro v' w' _ ho hg
    rw [← byteCells_app] at ho
    have h1 := (Ob.ofRow ho).mono hB
    obtain ⟨ad, cap, e⟩ := h1.is
    rw [List.length_append] at e
    exact ⟨ad, cap, e, h1, (Wo.refl _ w).grown hg fun k e => by cases e⟩
  rcases h with ⟨rfl, rfl⟩ | ⟨g, cap, rfl, h1, h2, h3, h4, h5⟩
  · obtain ⟨v', w', hrun, r1, r2, _⟩ := run_append_own (P := Tryz.prog) w w.heap.size 29 ty 5 i0 _ 1 1 Tryz.underlying29 hi0 hz0 hz1 hz2 rfl (by omega) (.slice none 0 0) 0 [] (World.ownsRow_nil w _ _ _) ⟨g0, 0, none⟩ xs.length xs.length (Lib.byteCells xs) (by rw [byteCells_len]; omega) hnews hone (by simp only [List.length_nil] at hlen; unfold maxLen; omega) (by simp only [List.length_nil] at hlen; omega) (Nat.le_refl _)
    obtain ⟨ad, cap, rfl, g1, g2⟩ := grown v' w' (.inr trivial) r1 r2
    exact ⟨ad, cap, w', hrun, g1, g2⟩
  · by_cases hr : l.length + xs.length ≤ cap
    · have hbl : (Lib.byteCells xs).length = xs.length := byteCells_len xs
      have hsp : ∀ j, j < (Lib.byteCells xs).length → (w.cell? ⟨g, 0 + l.length * i0.size + j, none⟩).isSome = true ∧ w.frozen? ⟨g, 0 + l.length * i0.size + j, none⟩ = false := fun j hj => by
        rw [hz1]
        exact h5 _ (by omega)
      have hrun := run_append_room_cells (P := Tryz.prog) w 29 ty 5 i0 Tryz.underlying29 hi0 g 0 l.length cap ⟨g0, 0, none⟩ xs.length xs.length (Lib.byteCells xs) (by rw [hz1, byteCells_len]; omega) hnews hone hr (fun j hj => (hsp j hj).1) (fun j hj => (hsp j hj).2)
      have hwo := Dg.setCells_wo g (Lib.byteCells xs) (0 + l.length * i0.size) w
      rw [hz1, Nat.zero_add, Nat.mul_one] at hrun hwo
      refine ⟨_, cap, _, hrun, .inr ⟨g, cap, by rw [List.length_append], h1, Nat.lt_of_lt_of_le h2 hwo.size, by rw [List.length_append]; exact hr, fun j u hu => ?_, fun j hj => ⟨World.isSome_setCells g _ _ w _ (h5 j hj).1, by rw [World.frozen?_setCells]; exact (h5 j hj).2⟩⟩, hwo.mono fun k e => by rw [e]; rfl⟩
      rw [byteCells_app] at hu
      have hb1 := byteCells_len l
      by_cases hj : j < l.length
      · rw [World.cell?_setCells_out g _ _ w _ fun _ _ => .inl hj]
        rw [List.getElem?_append_left (by omega)] at hu
        exact h4 j u hu
      · rw [List.getElem?_append_right (by omega), byteCells_len] at hu
        obtain ⟨hj2, e⟩ := List.getElem?_eq_some_iff.1 hu
        have := World.cell?_setCells_in g (Lib.byteCells xs) l.length w (fun i hi => (h5 _ (by omega)).1) (j - l.length) hj2
        rw [show l.length + (j - l.length) = j by omega, e] at this
        exact this
    · obtain ⟨v', w', hrun, r1, r2⟩ := run_append_arg_grows (P := Tryz.prog) w 29 ty 5 i0 _ 1 1 Tryz.underlying29 hi0 hz0 hz1 hz2 rfl (by omega) ⟨g, 0, none⟩ l.length cap (Lib.byteCells l) (by rw [byteCells_len]; omega) (fun j u hj => by rw [Addr.add_mid, Nat.zero_add]; exact h4 j u hj) ⟨g0, 0, none⟩ xs.length xs.length (Lib.byteCells xs) (by rw [byteCells_len]; omega) hnews (by omega) (by unfold maxLen; omega) (by omega)
      obtain ⟨ad, cap', rfl, g1, g2⟩ := grown v' w' (.inr trivial) r1 r2
      exact ⟨ad, cap', w', hrun, g1, g2⟩
theorem Tryz.app_wp {o : Oper} {a : Act} {K : Act → World → Prop} {Q : Exit → Act → World → Prop} (s y : Operand)
    (ho : o.op = .call { callee := .builtin .append, args := #[s, y], argTypes := #[29, 29] })
    {w : World} {B : Nat} {V : Value} {l : List UInt8} (hrow : Ob w B V l) (hB : B ≤ w.heap.size)
    (hs : a.eval s = V) (xs : List UInt8) (k g0 : Nat) (hy : a.eval y = .slice (some ⟨g0, 0, none⟩) k k) (hk : k = xs.length) (h0 : 0 < k) (cs : Array Value) (hcs : cs = (Lib.byteCells xs).toArray) (hnb : w.heap[g0]? = some (.cells cs 5 (0, 0))) (hlen : l.length + xs.length ≤ 140737488355328)
    (hK : ∀ ad cap w1, Ob w1 B (.slice ad (l.length + k : Nat) cap) (l ++ xs) → Wo (fun k => V.ownBlock = some k) w w1 → K (a.put o.dst (.slice ad (l.length + k : Nat) cap)) w1) : o.wp Tryz.prog a w K Q := by
  subst hcs
  obtain ⟨ad, cap, w1, hrun, h1, h2⟩ := Tryz.app_run o.type hrow hB xs k g0 hk h0 hnb hlen
  unfold Oper.wp
  simp [execOp, ho, resolve, invoke, builtin, hs, hy, hrun, Result.andThen]
  exact hK ad cap w1 h1 h2
theorem Tryz.appN {ops : Array Oper} {rest : List Oper} {o : Oper} {a : Act} {Q : Exit → Act → World → Prop} (hgd : o.guard = none) (s y : Operand)
    (ho : o.op = .call { callee := .builtin .append, args := #[s, y], argTypes := #[29, 29] })
    {w : World} {B : Nat} {V : Value} {l : List UInt8} (hrow : Ob w B V l) (hB : B ≤ w.heap.size)
    (hs : a.eval s = V) (xs : List UInt8) (k g0 : Nat) (hy : a.eval y = .slice (some ⟨g0, 0, none⟩) k k) (hk : k = xs.length) (h0 : 0 < k) (cs : Array Value) (hcs : cs = (Lib.byteCells xs).toArray) (hnb : w.heap[g0]? = some (.cells cs 5 (0, 0))) (hlen : l.length + xs.length ≤ 140737488355328)
    (hK : ∀ ad cap w1, Ob w1 B (.slice ad (l.length + k : Nat) cap) (l ++ xs) → Wo (fun k => V.ownBlock = some k) w w1 → wpList Tryz.prog ops Q rest (a.put o.dst (.slice ad (l.length + k : Nat) cap)) w1) : wpList Tryz.prog ops Q (o :: rest) a w :=
  wpList_plain hgd fun _ hk' => Tryz.app_wp s y ho hrow hB hs xs k g0 hy hk h0 cs hcs hnb hlen fun ad cap w1 h1 h2 => hk' _ _ (hK ad cap w1 h1 h2)
/-- The same at a step of a region that draws. -/
theorem Tryz.stepN {ops : Array Oper} {o : Oper} {a : Act} {K : Act → World → Prop} {Q : Exit → Act → World → Prop} {E : Prop} (hgd : o.guard = none) (s y : Operand)
    (ho : o.op = .call { callee := .builtin .append, args := #[s, y], argTypes := #[29, 29] })
    {w : World} {B : Nat} {V : Value} {l : List UInt8} (hrow : Ob w B V l) (hB : B ≤ w.heap.size)
    (hs : a.eval s = V) (xs : List UInt8) (k g0 : Nat) (hy : a.eval y = .slice (some ⟨g0, 0, none⟩) k k) (hk : k = xs.length) (h0 : 0 < k) (cs : Array Value) (hcs : cs = (Lib.byteCells xs).toArray) (hnb : w.heap[g0]? = some (.cells cs 5 (0, 0))) (hlen : l.length + xs.length ≤ 140737488355328)
    (hK : ∀ ad cap w1, Ob w1 B (.slice ad (l.length + k : Nat) cap) (l ++ xs) → Wo (fun k => V.ownBlock = some k) w w1 → K (a.put o.dst (.slice ad (l.length + k : Nat) cap)) w1) :
    if Region.wanted o (yielded ops a.tmps) = true then Oper.wp Tryz.prog o a w K Q else E := by
  have hw : Region.wanted o (yielded ops a.tmps) = true := by simp [Region.wanted, hgd]
  rw [if_pos hw]
  exact Tryz.app_wp s y ho hrow hB hs xs k g0 hy hk h0 cs hcs hnb hlen hK
set_option maxRecDepth 20000 in
/-- As a text. -/
theorem Tryz.conv_bs {W : World} {ad : Option Addr} {n cap : Nat} {l : List UInt8} (h : Bs W (.slice ad n cap) l) : (convert 29 9 (.slice ad n cap)).run Tryz.prog W = .ok (.string ⟨l.toArray⟩) W := by
  obtain ⟨ad', cap', e, hc, hn, h1⟩ := h.ex
  injection e with e1 e2 e3
  subst e1 e2 e3
  rcases h1 with rfl | ⟨g, o, rfl, _, h2⟩
  · exact run_convert_bytes_zero (P := Tryz.prog) _ 29 5 Tryz.underlying29 Tryz.underlying5 ad cap 9 Tryz.underlying9
  · exact run_convert_bytes_back (P := Tryz.prog) W 29 9 5 ⟨g, o, none⟩ cap l Tryz.underlying29 Tryz.underlying5 Tryz.underlying9 (fun j hj => by
      rw [Addr.add_mid]
      exact h2 j _ (by simp [Lib.byteCells, hj]))
/-- A text as bytes. -/
theorem Tryz.conv_sb2 (t : ByteArray) (W : World) : (convert 9 29 (.string t)).run Tryz.prog W = .ok (.slice (some ⟨W.heap.size, 0, none⟩) t.size (grownCap W t.size 0 5)) (Lib.bytesWorld W 5 t) :=
  Lib.run_convert_string_bytes (P := Tryz.prog) W 9 29 5 t (u := .string) Tryz.underlying9 Tryz.underlying29 Tryz.underlying5
theorem Dg.bytesW_below (w : World) (e : TypeId) (t : ByteArray) : Below w.heap.size w (Lib.bytesWorld w e t) := ⟨rfl, rfl, rfl, by rw [Lib.bytesWorld_size]; omega, fun k hk => Lib.bytesWorld_at_old w _ t k hk⟩
theorem Dg.bytesW_ob (w : World) (e : TypeId) (t : ByteArray) {B : Nat} (hB : B ≤ w.heap.size) : Ob (Lib.bytesWorld w e t) B (.slice (some ⟨w.heap.size, 0, none⟩) t.size (grownCap w t.size 0 e)) t.data.toList := by
  have hn := Lib.bytesWorld_at_new w e t
  have hs : (Lib.bytesCells w e t).size = grownCap w t.size 0 e := by
    have := grownCap_ge w t.size 0 e
    simp only [Lib.bytesCells, Array.size_append, Array.size_map, Array.size_replicate]
    show t.size + _ = _
    omega
  refine .inr ⟨w.heap.size, _, rfl, hB, by rw [Lib.bytesWorld_size]; omega, grownCap_ge w t.size 0 e, fun j u hu => ?_, fun j hj => ⟨?_, ?_⟩⟩
  · have hj : j < t.size := by
      have := (List.getElem?_eq_some_iff.1 hu).1
      rw [byteCells_len] at this
      exact this
    have hj2 : j < t.data.toList.length := hj
    rw [Lib.bytesWorld_cell w e t j hj, ← hu]
    simp [Lib.byteCells, List.getElem?_eq_getElem hj2]
  · rw [cell_of_row _ _ _ _ _ _ hn, Array.getElem?_eq_getElem (by omega)]; rfl
  · simp [World.frozen?, hn]
    omega
theorem Dg.digit : ∀ (n : Nat) (h : n < 16), (⟨#[48, 49, 50, 51, 52, 53, 54, 55, 56, 57, 97, 98, 99, 100, 101, 102]⟩ : ByteArray)[n]'h = hexD n := by decide
theorem Dg.hex_len (l : List UInt8) : (hex l).length = 2 * l.length := by
  induction l with
  | nil => rfl
  | cons c l ih => simp only [hex, List.flatMap_cons, List.length_append, List.length_cons, List.length_nil] at ih ⊢; omega
theorem Dg.hex_app (a b : List UInt8) : hex (a ++ b) = hex a ++ hex b := by simp [hex]
theorem Dg.list_len (b : ByteArray) : b.toList.length = b.size := by rw [ByteArray.toList_eq]; rfl
theorem Dg.take_next (b : ByteArray) (i : Nat) (h : i < b.size) : b.toList.take (i + 1) = b.toList.take i ++ [b[i]] := by
  rw [ByteArray.toList_eq, List.take_add_one, List.getElem?_eq_getElem (show i < b.data.toList.length from h)]
  rfl
theorem Dg.bytes_back (b : ByteArray) : (⟨b.toList.toArray⟩ : ByteArray) = b := by rw [ByteArray.toList_eq]
/-- Some bytes more. -/
theorem Dg.ob_step {w wr w1 : World} {V : Value} (hw : Below w.heap.size w wr) {o : Obj} (h1 : Wo (fun k => V.ownBlock = some k) (wr.alloc o).drew w1) {l : List UInt8} (hV : Ob wr w.heap.size V l) : Below w.heap.size w w1 :=
  Wo.toBelow (hw.alloc hw.size o) (w1 := (wr.alloc o)) (Wo.mk h1.os h1.tape h1.output h1.size h1.block) (fun k e => (hV.lt k e).1) (Nat.le_trans hw.size (by simp))
end Go.Proofs

namespace Go.Proofs
open Go.RowKit Go.Wi Go.Dg
theorem Dg.ob_step2 {w wr w1 : World} {V : Value} (hw : Below w.heap.size w wr) {o : Obj} (h1 : Wo (fun k => V.ownBlock = some k) (wr.alloc o) w1) {l : List UInt8} (hV : Ob wr w.heap.size V l) : Below w.heap.size w w1 :=
  Wo.toBelow (hw.alloc hw.size o) (w1 := (wr.alloc o)) h1 (fun k e => (hV.lt k e).1) (Nat.le_trans hw.size (by simp))
def Dg.lenV : Value → Nat
  | .slice _ n _ => n
  | _ => 0
def Dg.zeros (n : Nat) : Nat := (119 - n % 64) % 64
theorem Dg.zeros_not {n m : Nat} (h : m < Dg.zeros n) : (n + 1 + m) % 64 ≠ 56 := by unfold Dg.zeros at h; omega
theorem Dg.zeros_is (n : Nat) : (n + 1 + Dg.zeros n) % 64 = 56 := by unfold Dg.zeros; omega
theorem Dg.be8_next (T t : Nat) (ht : t < 8) : (be8 T).take (t + 1) = (be8 T).take t ++ [UInt8.ofNat (T / 2 ^ (56 - 8 * t))] := by
  have : t = 0 ∨ t = 1 ∨ t = 2 ∨ t = 3 ∨ t = 4 ∨ t = 5 ∨ t = 6 ∨ t = 7 := by omega
  rcases this with rfl | rfl | rfl | rfl | rfl | rfl | rfl | rfl <;> rfl
theorem Dg.be8_cell (T t : Nat) (A : Int) (hA : A = 56 - 8 * (t : Int)) (ht : t < 8) : #[Value.int .u8 ((T : Int) / 2 ^ min A.toNat 64 % 256)] = (Lib.byteCells [UInt8.ofNat (T / 2 ^ (56 - 8 * t))]).toArray := by
  have e1 : min A.toNat 64 = 56 - 8 * t := by omega
  have e2 : ((T : Int) / 2 ^ min A.toNat 64 % 256) = (((UInt8.ofNat (T / 2 ^ (56 - 8 * t))).toNat : Nat) : Int) := by
    rw [e1, UInt8.toNat_ofNat']
    simp
  rw [e2]
  rfl
section
variable {P : Program} {ops : Array Oper} {a : Act} {w w' : World} {rest : List Oper} {o : Oper}
/-- An operation that only reads. -/
theorem Dg.still_value {L : Act → Prop} (hg : o.guard = none) {v : Value} (he : (execOp a.eval o).run P w = .ok (.value v) w) (h : wpStill P ops w L rest (a.put o.dst v)) : wpStill P ops w L (o :: rest) a := by
  refine wpStill_step fun K hK => ?_
  rw [if_pos (by simp [Region.wanted, hg])]
  unfold Oper.still
  rw [he, Oper.stillUpon_value]
  exact hK _ h
theorem Dg.region_tail {id : Nat} {Q : Exit → Act → World → Prop} {l : List Oper} (n : Nat) (hm : P.follows .mixedOrders = true) (hB : Region.lexTailB .any l.toArray n = true)
    (h : wpStill P l.toArray w.drew (fun a' => wpList P l.toArray Q (l.drop n) a' w.drew) (l.take n) a) : (Code.region id l.toArray true).wp P Q a w := wp_region_still_tail n hm hB h
theorem Dg.run_load {t : TypeId} {p : Operand} {pv v : Value} (ho : o.op = .load t p) (hp : a.eval p = pv) (h : (Instr.loadAt t pv).run P w = .ok v w') : (execOp a.eval o).run P w = .ok (.value v) w' := by
  unfold execOp
  rw [ho]
  simp only [hp, Sem.run_bind, h, Result.andThen, Sem.run_pure]
end
theorem Dg.Ar.one {T : TypeId} {w : World} {g : Nat} {l : List Nat} (h : Dg.Ar T w g l) : g < w.heap.size := block_lt h
theorem Dg.Ar.setRow {T : TypeId} {w : World} {g : Nat} {l : List Nat} (h : Dg.Ar T w g l) (l' : List Nat) : Dg.Ar T (w.setRow g (l'.map fun (n : Nat) => Value.int .u32 (n : Int)).toArray) g l' := setRow_heap w g _ _ _ _ h
theorem Dg.all_one (l : List Nat) : ((l.map fun (n : Nat) => Value.int .u32 (n : Int)).toArray).all (·.oneCell') = true := by simp [Value.oneCell']
theorem Tryz.size8 (l : List Nat) (h : l.length = 8) : (Tryz.prog.info? 157).map (·.size) = some ((l.map fun (n : Nat) => Value.int .u32 (n : Int)).toArray).size := by
  have : (Tryz.prog.info? 157).map (·.size) = some 8 := by kernel_rfl
  rw [this]
  simp [h]
theorem Tryz.size64 (l : List Nat) (h : l.length = 64) : (Tryz.prog.info? 183).map (·.size) = some ((l.map fun (n : Nat) => Value.int .u32 (n : Int)).toArray).size := by
  have : (Tryz.prog.info? 183).map (·.size) = some 64 := by kernel_rfl
  rw [this]
  simp [h]
theorem Tryz.new8 (w : World) (l : List Nat) (hl : l.length = 8) : ∀ c : Array Value, c.size = 8 → (storeCells ⟨w.heap.size, 0, none⟩ (l.map fun (n : Nat) => Value.int .u32 (n : Int)) 0).run Tryz.prog (w.alloc (.cells c 157)) = .ok () (w.alloc (.cells (l.map fun (n : Nat) => Value.int .u32 (n : Int)).toArray 157)) := fun c hc =>
  run_storeCells_new w 157 c (l.map fun (n : Nat) => Value.int .u32 (n : Int)).toArray (Tryz.size8 l hl) (by simp [hc, hl]) (Dg.all_one l)
theorem Tryz.new64 (w : World) (l : List Nat) (hl : l.length = 64) : ∀ c : Array Value, c.size = 64 → (storeCells ⟨w.heap.size, 0, none⟩ (l.map fun (n : Nat) => Value.int .u32 (n : Int)) 0).run Tryz.prog (w.alloc (.cells c 183)) = .ok () (w.alloc (.cells (l.map fun (n : Nat) => Value.int .u32 (n : Int)).toArray 183)) := fun c hc =>
  run_storeCells_new w 183 c (l.map fun (n : Nat) => Value.int .u32 (n : Int)).toArray (Tryz.size64 l hl) (by simp [hc, hl]) (Dg.all_one l)
theorem Tryz.store8 {w : World} {g : Nat} {l0 : List Nat} (h : Dg.Ar 157 w g l0) (h0 : l0.length = 8) (l : List Nat) (hl : l.length = 8) : (Instr.storeAt 157 (.pointer (some ⟨g, 0, none⟩)) (.agg (l.map fun (n : Nat) => Value.int .u32 (n : Int)).toArray)).run Tryz.prog w = .ok () (w.setRow g (l.map fun (n : Nat) => Value.int .u32 (n : Int)).toArray) := by
  simp only [Instr.storeAt, Instr.sureAddr, Sem.run_bind, Sem.run_pure, Result.andThen]
  exact run_storeVar_row w g _ _ _ _ h (Tryz.size8 l hl) (by simp [h0, hl]) (Dg.all_one l)
theorem Tryz.store64 {w : World} {g : Nat} {l0 : List Nat} (h : Dg.Ar 183 w g l0) (h0 : l0.length = 64) (l : List Nat) (hl : l.length = 64) : (Instr.storeAt 183 (.pointer (some ⟨g, 0, none⟩)) (.agg (l.map fun (n : Nat) => Value.int .u32 (n : Int)).toArray)).run Tryz.prog w = .ok () (w.setRow g (l.map fun (n : Nat) => Value.int .u32 (n : Int)).toArray) := by
  simp only [Instr.storeAt, Instr.sureAddr, Sem.run_bind, Sem.run_pure, Result.andThen]
  exact run_storeVar_row w g _ _ _ _ h (Tryz.size64 l hl) (by simp [h0, hl]) (Dg.all_one l)
theorem Tryz.load8 {w : World} {g : Nat} {l : List Nat} (h : Dg.Ar 157 w g l) (hl : l.length = 8) : (Instr.loadAt 157 (.pointer (some ⟨g, 0, none⟩))).run Tryz.prog w = .ok (.agg (l.map fun (n : Nat) => Value.int .u32 (n : Int)).toArray) w := by
  simp only [Instr.loadAt, Instr.sureAddr, Sem.run_bind, Sem.run_pure, Result.andThen]
  exact run_loadVar_row w g _ _ _ _ _ h Tryz.underlying157 rfl (Tryz.size8 l hl)
theorem Tryz.load64 {w : World} {g : Nat} {l : List Nat} (h : Dg.Ar 183 w g l) (hl : l.length = 64) : (Instr.loadAt 183 (.pointer (some ⟨g, 0, none⟩))).run Tryz.prog w = .ok (.agg (l.map fun (n : Nat) => Value.int .u32 (n : Int)).toArray) w := by
  simp only [Instr.loadAt, Instr.sureAddr, Sem.run_bind, Sem.run_pure, Result.andThen]
  exact run_loadVar_row w g _ _ _ _ _ h Tryz.underlying183 rfl (Tryz.size64 l hl)
theorem Tryz.cells8 {w : World} {g : Nat} {l : List Nat} (h : Dg.Ar 157 w g l) (hl : l.length = 8) : (loadCellsFrom ⟨g, 0, none⟩ 0 8 #[]).run Tryz.prog w = .ok (l.map fun (n : Nat) => Value.int .u32 (n : Int)).toArray w := by
  have := run_loadCells_list (P := Tryz.prog) w ⟨g, 0, none⟩ (l.map fun (n : Nat) => Value.int .u32 (n : Int)) (fun j v hv => by
    rw [Addr.add_mid, Nat.zero_add, cell_of_row _ _ _ _ _ _ h]
    simpa using hv)
  rw [List.length_map, hl] at this
  simpa [loadCells] using this
theorem Tryz.cells64 {w : World} {g : Nat} {l : List Nat} (h : Dg.Ar 183 w g l) (hl : l.length = 64) : (loadCellsFrom ⟨g, 0, none⟩ 0 64 #[]).run Tryz.prog w = .ok (l.map fun (n : Nat) => Value.int .u32 (n : Int)).toArray w := by
  have := run_loadCells_list (P := Tryz.prog) w ⟨g, 0, none⟩ (l.map fun (n : Nat) => Value.int .u32 (n : Int)) (fun j v hv => by
    rw [Addr.add_mid, Nat.zero_add, cell_of_row _ _ _ _ _ _ h]
    simpa using hv)
  rw [List.length_map, hl] at this
  simpa [loadCells] using this
theorem Tryz.over8 {w : World} {g : Nat} {l0 : List Nat} (h : Dg.Ar 157 w g l0) (h0 : l0.length = 8) (l : List Nat) (hl : l.length = 8) : (storeCells ⟨g, 0, none⟩ (l.map fun (n : Nat) => Value.int .u32 (n : Int)) 0).run Tryz.prog w = .ok () (w.setRow g (l.map fun (n : Nat) => Value.int .u32 (n : Int)).toArray) := by
  have := run_storeCells_from (P := Tryz.prog) g 157 (l.map fun (n : Nat) => Value.int .u32 (n : Int)) 0 _ w h (by simp [h0, hl]) (fun v hv => by
    simp only [List.mem_map] at hv
    obtain ⟨n, _, rfl⟩ := hv
    rfl)
  simpa using this
theorem Dg.wbytes_len (l : List Nat) : (l.flatMap wbytes).length = 4 * l.length := by
  induction l with
  | nil => rfl
  | cons a l ih => rw [List.flatMap_cons, List.length_append, ih, show (wbytes a).length = 4 from rfl, List.length_cons]; omega
theorem Dg.wbytes_cells (x : Nat) : #[Value.int .u8 ((x : Int) / 16777216 % 256), Value.int .u8 ((x : Int) / 65536 % 256), Value.int .u8 ((x : Int) / 256 % 256), Value.int .u8 ((x : Int) % 256)] = (Lib.byteCells (wbytes x)).toArray := by
  have h : ∀ n : Nat, (((UInt8.ofNat n).toNat : Nat) : Int) = (n : Int) % 256 := fun n => by rw [UInt8.toNat_ofNat']; simp
  simp only [wbytes, Lib.byteCells, List.map_cons, List.map_nil, h]
  simp
theorem Dg.flat_next (l : List Nat) (i : Nat) (h : i < l.length) : (l.take (i + 1)).flatMap wbytes = (l.take i).flatMap wbytes ++ wbytes l[i] := by
  rw [List.take_add_one, List.getElem?_eq_getElem h, List.flatMap_append]
  simp
theorem Dg.small_blk (s : S8) (m : List UInt8) : Small (blk s m).l := by
  unfold blk
  generalize rnds (rounds.zip (words m)) s = v
  intro n hn
  simp only [addS, S8.l, List.mem_cons, List.not_mem_nil, or_false] at hn
  omega
theorem Dg.blks_succ (n : Nat) (m : List UInt8) (s : S8) : blks (n + 1) m s = blks n (m.drop 64) (blk s (m.take 64)) := by
  unfold blks
  exact each64_succ blk n m s
theorem Dg.blks_next {Tn t I J : Nat} {F : List UInt8} {s : S8} (ht : t < Tn) (hJ : J = I + 64) : blks (Tn - (t + 1)) (F.drop J) (blk s ((F.drop I).take 64)) = blks (Tn - t) (F.drop I) s := by
  obtain ⟨n, hn⟩ : ∃ n, n = Tn - (t + 1) := ⟨_, rfl⟩
  have e : (F.drop I).drop 64 = F.drop J := by rw [List.drop_drop, hJ]
  have e2 := Dg.blks_succ n (F.drop I) s
  rw [e] at e2
  rw [← hn, show Tn - t = n + 1 by omega]
  exact e2.symm
theorem Dg.small_start : Small Dg.start.l := by unfold Small; decide
theorem Dg.bs_cut {w : World} {g K cap I n c : Nat} {F : List UInt8} (h : Bs w (.slice (some ⟨g, 0, none⟩) K cap) F) (hI : I + n ≤ F.length) (hc : n ≤ c) : Bs w.drew (.slice (some ⟨g, I, none⟩) n c) ((F.drop I).take n) := by
  obtain ⟨ad, cap', e, h1, h2, h3⟩ := h.ex
  have hl : ((F.drop I).take n).length = n := by rw [List.length_take, List.length_drop]; omega
  refine ⟨some ⟨g, I, none⟩, c, by rw [hl], by omega, (fun e => by cases e), ?_⟩
  rcases h3 with rfl | ⟨g', o', e', h4, h5⟩
  · exact .inl (by simp)
  · subst e'
    injection e with e1 e2 e3
    injection e1 with e1
    injection e1 with e1 e4
    subst e1 e4
    refine .inr ⟨g, I, rfl, h4, fun j u hu => ?_⟩
    have := h5 (I + j) u (by
      have hj := (List.getElem?_eq_some_iff.1 hu).1
      rw [byteCells_len, hl] at hj
      simp only [Lib.byteCells, List.getElem?_map, List.getElem?_take, List.getElem?_drop] at hu ⊢
      rw [if_pos hj] at hu
      exact hu)
    rw [Nat.zero_add] at this
    exact this
/-- What stands while the blocks are summed up. -/
structure Tryz.Lp (w : World) (sB kB : Nat) (mv : Value) (F : List UInt8) (s : S8) (wr : World) : Prop where
  s : Dg.Ar 157 wr sB s.l
  k : Dg.Ar 183 wr kB rounds
  m : Bs wr mv F
  b : Below w.heap.size w wr
end Go.Proofs
