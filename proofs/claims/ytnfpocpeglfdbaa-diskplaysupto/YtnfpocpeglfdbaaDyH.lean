/-
  The document's Copy.
-/
import Derived.Test.YtnfpocpeglfdbaaDyG
import Derived.Laws.AppendOwnNone
namespace Go.Proofs
open Go.RowKit Go.Dk
/-- 'append' of a whole row to nothing. -/
theorem Try.appAll {ops : Array Oper} {rest : List Oper} {o : Oper} {a : Act} {Q : Exit → Act → World → Prop} (hgd : o.guard = none) (s y : Operand) {T E : TypeId} {i0 : TypeInfo} {z : Value} {size bytes : Nat} (hu : Try.prog.underlying T = some (.slice E)) (hi0 : Try.prog.info? E = some i0) (hz0 : i0.zero = some z) (hz1 : i0.size = size) (hz2 : i0.bytes = bytes) (hzs : z.cells.size = size) (hs0 : 0 < size)
    (ho : o.op = .call { callee := .builtin .append, args := #[s, y], argTypes := #[T, T] })
    {w : World} {ad : Option Addr} {n cap : Nat} {xs : List Value} {B2 : Nat} (h : w.ownsRow B2 E size (.slice ad n cap) n xs) (hone : ∀ u ∈ xs, u.oneCell' = true)
    (hs : a.eval s = .slice none 0 0) (hy : a.eval y = .slice ad n cap) (hlen : n * bytes ≤ 140737488355328) (hlen2 : n ≤ maxLen)
    (hK : ∀ v w1, w1.ownsRow w.heap.size E size v n xs → Below w.heap.size w w1 → (∃ ad' cap', v = .slice ad' n cap') → wpList Try.prog ops Q rest (a.put o.dst v) w1) : wpList Try.prog ops Q (o :: rest) a w := by
  have hnil : ad = none → cap = 0 ∧ n = 0 := by
    obtain ⟨ad', cap', e, h2, -⟩ := Dk.rowForm h
    cases e
    exact h2
  cases ad with
  | none =>
    obtain ⟨rfl, rfl⟩ := hnil rfl
    have hx : xs = [] := List.eq_nil_of_length_eq_zero (by rw [h.1, Nat.zero_mul])
    subst hx
    exact wpList_append_own_none hgd s y T ho w.heap.size E i0 size hu hi0 _ 0 [] hs (World.ownsRow_nil _ _ _ _) hy (hK _ w (World.ownsRow_nil _ _ _ _) (Below.refl _ _) ⟨none, 0, rfl⟩)
  | some d =>
    refine wpList_append_own w hgd s y T ho w.heap.size E i0 z size bytes hu hi0 hz0 hz1 hz2 hzs hs0 (.slice none 0 0) 0 [] hs (World.ownsRow_nil _ _ _ _) d n cap xs hy h.1 ?_ hone (by omega) (by rw [Nat.zero_add]; exact hlen) (Nat.le_refl _) ?_
    · rcases h.2 with ⟨e, _⟩ | ⟨g, c, cur, e, _⟩
      · cases e
      · cases e
        exact h.cells (g := g) rfl
    · intro v' w' hown hg _
      rw [Nat.zero_add, List.nil_append] at hown
      have hb : Below w.heap.size w w' := (Below.refl _ w).grown hg (Nat.le_refl _) fun k e => by cases e
      obtain ⟨ad', cap', e, -⟩ := Dk.rowForm hown
      exact hK v' w' hown hb ⟨ad', cap', e⟩
theorem Dk.strs_one (n : Nat) (L : List UInt8) : ∀ u ∈ Dk.strs n L, u.oneCell' = true := fun u hu => by
  obtain ⟨i, _, rfl⟩ := List.mem_map.1 hu; rfl
theorem Dk.prs_one (W : List Wr) : ∀ u ∈ Dk.prs W, u.oneCell' = true := fun u hu => by
  obtain ⟨p, _, hu⟩ := List.mem_flatMap.1 hu
  rcases List.mem_cons.1 hu with rfl | hu
  · rfl
  · rcases List.mem_cons.1 hu with rfl | hu
    · rfl
    · cases hu
/-- The document's copy: all of it is new. -/
structure Try.RCopyOk (w : World) (s : DS) (e : Ending) (w' : World) : Prop where
  ex : ∃ y Lv Wv left k t, e = .returned (.pointer (some ⟨y, 0, none⟩)) ∧ Try.Rfm w' y Lv Wv left k t s ∧ Below w.heap.size w w' ∧ ∀ j, Dk.rfoot y Lv Wv j → w.heap.size ≤ j
set_option maxRecDepth 4000 in
set_option maxHeartbeats 4000000 in
theorem Try.rCopy_any {w : World} {x : Nat} {Lv Wv : Value} {left k t : Int} {s : DS} (h : Try.Rfm w x Lv Wv left k t s) :
    Calls Try.prog 22 #[.pointer (some ⟨x, 0, none⟩)] w fun e w' => Try.RCopyOk w s e w' := by
  obtain ⟨la, lc, rfl, -⟩ := Dk.rowForm h.lr
  obtain ⟨wa, wc, rfl, -⟩ := Dk.rowForm h.wr
  obtain ⟨i0, hi0, hz0, hz1, hz2⟩ := info_parts Try.info_s
  obtain ⟨i1, hi1, hi2⟩ := Option.map_eq_some_iff.1 Try.info_wr
  simp only [Prod.mk.injEq] at hi2
  obtain ⟨hy0, hy1, hy2⟩ := hi2
  obtain ⟨zz, hzz, hzs⟩ := Option.map_eq_some_iff.1 hy0
  obtain ⟨c0, c1, c2, c3, c4, c5, c6, c7, c8, c9⟩ := h.c
  have H : Hid (Try.Rfm w x (.slice la s.n lc) (.slice wa s.W.length wc) left k t s) := h
  clear h
  go_enter Try.func22, Try.ntmps22
  go_upto_region 2 with fail
  generalize hW1 : w.alloc _ = W1
  have hb1 : Below w.heap.size w W1 := by rw [← hW1]; exact (Below.refl w.heap.size w).alloc (Nat.le_refl _) _
  have hv1 : W1.heap[w.heap.size]? = some (.cells (Dk.rfc (.slice la s.n lc) (.slice wa s.W.length wc) left k t s) 69 (0, 0)) := by rw [← hW1]; exact heap_alloc_new w _
  have hM1 := H.out.keep fun j e => hb1.block j (H.out.foot_lt j e)
  obtain ⟨y, hy⟩ : ∃ y, y = w.heap.size := ⟨_, rfl⟩
  rw [← hy] at hv1 ⊢
  have Hy : Hid (y = w.heap.size) := hy
  have HM1 : Hid (Try.Rfm W1 x (.slice la s.n lc) (.slice wa s.W.length wc) left k t s) := hM1
  have Hv1 : Hid (W1.heap[y]? = some (.cells (Dk.rfc (.slice la s.n lc) (.slice wa s.W.length wc) left k t s) 69 (0, 0))) := hv1
  have Hb1 : Hid (Below w.heap.size w W1) := hb1
  obtain ⟨d0, d1, -⟩ := hM1.c
  clear hW1 hv1 hM1 hb1 hy c0 c1 c2 c3 c4 c5 c6 c7 c8 c9
  go_upto_region 5 with (first
    | (at_builtin; refine Try.appAll rfl _ _ Try.underlying66 hi0 hz0 hz1 hz2 rfl (by omega) rfl HM1.out.lr (Dk.strs_one _ _) rfl rfl (by have := HM1.out.n1; omega) (by have := HM1.out.n1; unfold maxLen; omega) ?_; rintro v w2 hr2 hb2 ⟨ad2, cap2, rfl⟩; have e2 : w2.heap[y]? = _ := (hb2.block y (Dk.block_lt Hv1.out)).trans Hv1.out; have k0 := cell_of_row w2 y 0 _ _ _ e2; have f0 := frozen_of_row w2 y 0 _ _ e2)
    | fail)
  have e3 := heap_setCell_same w2 y 0 _ _ (.slice ad2 s.n cap2) e2
  have hM2 := HM1.out.keep fun j e => hb2.block j (HM1.out.foot_lt j e)
  have hyl : y < W1.heap.size := Dk.block_lt Hv1.out
  have hxy : ∀ j, Dk.rfoot x (.slice la s.n lc) (.slice wa s.W.length wc) j → j ≠ y := fun j e => by have := H.out.foot_lt j e; have := Hy.out; omega
  have hM3 : Try.Rfm (w2.setCell ⟨y, 0, none⟩ (.slice ad2 s.n cap2)) x (.slice la s.n lc) (.slice wa s.W.length wc) left k t s := hM2.keep fun j e => Below.heap_setCell w2 ⟨y, 0, none⟩ _ j (hxy j e)
  have hr3 : (w2.setCell ⟨y, 0, none⟩ (.slice ad2 s.n cap2)).ownsRow W1.heap.size 9 1 (.slice ad2 s.n cap2) s.n (Dk.strs s.n s.L) := Dk.row_heap hr2 fun j e => Below.heap_setCell w2 ⟨y, 0, none⟩ _ j (by have := (hr2.lt j e).1; show j ≠ y; omega)
  have hb3 : Below w.heap.size w (w2.setCell ⟨y, 0, none⟩ (.slice ad2 s.n cap2)) := (Hb1.out.trans (hb2.mono Hb1.out.size)).setCell (p := ⟨y, 0, none⟩) (by have := Hy.out; show _ ≤ y; omega) _
  have hs3 : W1.heap.size ≤ (w2.setCell ⟨y, 0, none⟩ (.slice ad2 s.n cap2)).heap.size := by have := hb2.size; simp; omega
  have HY : Hid (w.heap.size ≤ W1.heap.size ∧ y < W1.heap.size) := ⟨Hb1.out.size, hyl⟩
  generalize w2.setCell ⟨y, 0, none⟩ (.slice ad2 s.n cap2) = W3 at *
  have E3 : Hid (W3.heap[y]? = some (.cells (Dk.rfc (.slice ad2 s.n cap2) (.slice wa s.W.length wc) left k t s) 69 (0, 0))) := e3
  have HM3 : Hid (Try.Rfm W3 x (.slice la s.n lc) (.slice wa s.W.length wc) left k t s) := hM3
  have HR3 : Hid (W3.ownsRow W1.heap.size 9 1 (.slice ad2 s.n cap2) s.n (Dk.strs s.n s.L)) := hr3
  have HB3 : Hid (Below w.heap.size w W3 ∧ W1.heap.size ≤ W3.heap.size) := ⟨hb3, hs3⟩
  obtain ⟨-, m1, -⟩ := hM3.c
  clear e3 hM2 hM3 hr3 hb3 hs3 hyl hxy hr2 hb2 e2 k0 f0 d0 d1 HM1 Hv1 Hb1
  go_wp2_with (first
    | (at_builtin; refine Try.appAll rfl _ _ Try.underlying67 hi1 hzz hy1 hy2 hzs (by omega) rfl HM3.out.wr (Dk.prs_one _) rfl rfl (by have := HM3.out.w1; omega) (by have := HM3.out.w1; unfold maxLen; omega) ?_; rintro v w4 hr4 hb4 ⟨ad4, cap4, rfl⟩; have e4 : w4.heap[y]? = _ := (hb4.block y (Dk.block_lt E3.out)).trans E3.out; have k1 := cell_of_row w4 y 1 _ _ _ e4; have f1 := frozen_of_row w4 y 1 _ _ e4)
    | fail)
  go_ret
  have e5 := heap_setCell_same w4 y 1 _ _ (.slice ad4 s.W.length cap4) e4
  have h1 := HB3.out
  have h2 := HY.out
  have h3 := Hy.out
  have hh := H.out
  have hot : ∀ j, j ≠ y → (w4.setCell ⟨y, 1, none⟩ (.slice ad4 s.W.length cap4)).heap[j]? = w4.heap[j]? := fun j hj => Below.heap_setCell w4 ⟨y, 1, none⟩ _ j hj
  refine ⟨y, .slice ad2 s.n cap2, .slice ad4 s.W.length cap4, left, k, t, rfl, ⟨e5, hh.hf, ?_, ?_, fun j e => ?_, fun j e => ⟨?_, fun e2 => ?_⟩, hh.lL, hh.good, hh.n0, hh.n1, hh.w1⟩, ?_, fun j e => ?_⟩
  · have h5 := Dk.row_heap HR3.out fun j e => (hot j (by have := (HR3.out.lt j e).1; omega)).trans (hb4.block j (HR3.out.lt j e).2)
    exact ⟨h5.1, h5.2.elim Or.inl fun ⟨g, c, cur, q1, q2, q3⟩ => Or.inr ⟨g, c, cur, q1, Nat.zero_le _, q3⟩⟩
  · have h5 := Dk.row_heap hr4 fun j e => hot j (by have := (hr4.lt j e).1; omega)
    exact ⟨h5.1, h5.2.elim Or.inl fun ⟨g, c, cur, q1, q2, q3⟩ => Or.inr ⟨g, c, cur, q1, Nat.zero_le _, q3⟩⟩
  · have := (HR3.out.lt j e).1; omega
  · have := (hr4.lt j e).1; omega
  · have := (hr4.lt j e).1; have := (HR3.out.lt j e2).2; omega
  · exact (h1.1.trans (hb4.mono (by omega))).setCell (p := ⟨y, 1, none⟩) (by show _ ≤ y; omega) _
  · rcases e with e | e | e
    · omega
    · have := (HR3.out.lt j e).1; omega
    · have := (hr4.lt j e).1; omega
end Go.Proofs
