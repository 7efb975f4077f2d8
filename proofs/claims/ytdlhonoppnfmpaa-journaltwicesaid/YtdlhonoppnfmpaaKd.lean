/-
  with: a state with a record more.
-/
import Derived.Test.YtdlhonoppnfmpaaKc
import Derived.Deep.AppendLies
import Derived.Laws.AppendOwnNone
namespace Go.Proofs
open Go.RowKit Go.Dk
theorem Try.info_str : (Try.prog.info? 9).map (fun i => (i.zero, i.size, i.bytes)) = some (some (.string ⟨#[]⟩), 1, 16) := by kernel_rfl
theorem Dk.strs_len (l : List (List UInt8)) : (Dk.strs l).length = l.length := by simp [Dk.strs]
theorem Dk.strs_one (l : List (List UInt8)) : ∀ u ∈ Dk.strs l, u.oneCell' = true := fun u hu => by obtain ⟨X, _, rfl⟩ := List.mem_map.1 hu; rfl
/-- A copy of a row: 'append([]string{}, a...)'. -/
theorem Try.copy_strs {ops : Array Oper} {rest : List Oper} {o : Oper} {a : Act} {Q : Exit → Act → World → Prop} (hgd : o.guard = none) (s x : Operand)
    (ho : o.op = .call { callee := .builtin .append, args := #[s, x], argTypes := #[25, 25] })
    (w : World) (hs : a.eval s = .slice (some ⟨w.heap.size, 0, none⟩) 0 0) (v : Value) (hx : a.eval x = v) (lo : Nat) (recs : List (List UInt8)) (hO : w.ownsRow lo 9 1 v recs.length (Dk.strs recs)) (hl : recs.length < 1000000)
    (h : ∀ v' w', w'.ownsRow w.heap.size 9 1 v' recs.length (Dk.strs recs) → Below w.heap.size w w' → wpList Try.prog ops Q rest (a.put o.dst v') w') : wpList Try.prog ops Q (o :: rest) a (w.alloc (.cells #[] 9)) := by
  obtain ⟨i0, hi0, hz0, hz1, hz2⟩ := info_parts Try.info_str
  have hb0 := (Below.refl w.heap.size w).alloc (Nat.le_refl _) (.cells #[] 9)
  have hown : (w.alloc (.cells #[] 9)).ownsRow w.heap.size 9 1 (.slice (some ⟨w.heap.size, 0, none⟩) 0 0) 0 [] := World.ownsRow_lit w #[] 0 (Nat.le_refl _) (by unfold maxLen; omega) rfl
  rcases hO.2 with ⟨h1, h2⟩ | ⟨g, cap, cur, h1, hb, hg, _⟩
  · refine wpList_append_own_none hgd s x 25 ho w.heap.size 9 i0 1 Try.underlying25 hi0 _ 0 [] hs hown (hx.trans h1) ?_
    have hl0 := List.eq_nil_of_length_eq_zero h2
    subst hl0
    exact h _ _ hown hb0
  · have hglt := (Array.getElem?_eq_some_iff.1 hg).1
    refine wpList_append_own _ hgd s x 25 ho w.heap.size 9 i0 _ 1 16 Try.underlying25 hi0 hz0 hz1 hz2 rfl (by omega) _ 0 [] hs hown ⟨g, 0, none⟩ recs.length cap (Dk.strs recs) (hx.trans h1) (by rw [Dk.strs_len]; omega) (fun j u hj => ?_) (Dk.strs_one recs) (by unfold maxLen; omega) (by omega) (by simp) ?_
    · have hadd : (⟨g, 0, none⟩ : Addr).add j = ⟨g, j, none⟩ := by unfold Addr.add; split <;> simp_all
      rw [hadd, hb0.cell (p := ⟨g, j, none⟩) hglt]
      have hj' := (List.getElem?_eq_some_iff.1 hj).1
      rw [Dk.strs_len] at hj'
      subst h1
      rw [hO.cellAt j (by omega)]; exact hj
    · intro v' w' hown' hgr _
      rw [List.nil_append, Nat.zero_add] at hown'
      exact h v' w' hown' (hb0.grown hgr (by simp) (fun k hk => by simp [Value.ownBlock] at hk; omega))
theorem Dk.two_cells {w : World} {b : Nat} {T : TypeId} {x y : Value} (h : w.heap[b]? = some (.cells #[x, y] T (0, 0))) (u v : Value) : ((w.setCell ⟨b, 0, none⟩ u).setCell ⟨b, 1, none⟩ v).heap[b]? = some (.cells #[u, v] T (0, 0)) := by
  rw [heap_setCell_same _ b 1 _ T v (heap_setCell_same w b 0 _ T u h)]
  rfl
theorem Dk.row_base {w : World} {B : Nat} {e : TypeId} {size : Nat} {v : Value} {n : Nat} {xs : List Value} (h : w.ownsRow B e size v n xs) : w.ownsRow 0 e size v n xs := by
  obtain ⟨h1, h2 | ⟨g, cap, cur, h3, _, h4⟩⟩ := h
  · exact ⟨h1, .inl h2⟩
  · exact ⟨h1, .inr ⟨g, cap, cur, h3, Nat.zero_le _, h4⟩⟩
set_option maxHeartbeats 1000000 in
set_option maxRecDepth 20000 in
theorem Try.with_any {w : World} {P : Nat → Prop} {v : Value} {snap : List UInt8} {recs : List (List UInt8)} (hl : recs.length < 1000000) (h : Try.Sta w P v snap recs) (d : List UInt8) :
    Calls Try.prog 13 #[v, .string ⟨d.toArray⟩] w fun r w' => ∃ v', r = .returned v' ∧ Try.Sta w' (fun k => w.heap.size ≤ k) v' snap (recs ++ [d]) ∧ Below w.heap.size w w' := by
  obtain ⟨rv, rfl, hrv, -⟩ := h
  have HR : Hid (w.ownsRow 0 9 1 rv recs.length (Dk.strs recs)) := hrv
  clear hrv
  obtain ⟨i0, hi0, hz0, hz1, hz2⟩ := info_parts Try.info_str
  go_enter Try.func13, Try.ntmps13
  go_wp2_with (first
    | (at_builtin; go_loud (refine Try.copy_strs rfl _ _ rfl _ (by simp [Act.eval]) rv (by rfl) 0 recs ((HR.out.alloc _).alloc _) hl ?_; intro v1 w1 hr1 hb1))
    | fail)
  have hne : ∀ k, v1.ownBlock = some k → w.heap.size + 1 + 1 ≤ k := fun k e => by have := (hr1.lt k e).1; simp at this; omega
  have hA1 : w1.heap[w.heap.size]? = some (.cells #[.string ⟨snap.toArray⟩, rv] 27 (0, 0)) := (hb1.block _ (by simp; omega)).trans ((Below.heap_alloc (w.alloc _) _ _ (by simp)).trans (heap_alloc_new w _))
  have hB1 : w1.heap[w.heap.size + 1]? = some (.cells #[.string ⟨#[]⟩, .slice none 0 0] 27 (0, 0)) := (hb1.block _ (by simp)).trans (by have := heap_alloc_new (w.alloc (.cells #[.string ⟨snap.toArray⟩, rv] 27)) (.cells #[.string ⟨#[]⟩, .slice none 0 0] 27); simpa using this)
  have hs1 : w.heap.size + 1 + 1 ≤ w1.heap.size := by have := hb1.size; simp at this; omega
  have cA1 : w1.cell? ⟨w.heap.size, 0, none⟩ = some (.string ⟨snap.toArray⟩) := cell_of_row _ _ _ _ _ _ hA1
  have hr1' : w1.ownsRow (w.heap.size + 1 + 1) 9 1 v1 recs.length (Dk.strs recs) := by simpa using hr1
  have HBW : Hid (Below w.heap.size w w1) := (((Below.refl w.heap.size w).alloc (Nat.le_refl _) _).alloc (by simp) _).trans (hb1.mono (by simp; omega))
  have cA1' : (w1.alloc (.cells #[.string ⟨d.toArray⟩] 9)).cell? ⟨w.heap.size, 0, none⟩ = some (.string ⟨snap.toArray⟩) := cell_of_row _ _ _ _ _ _ ((Below.heap_alloc w1 _ _ (by omega)).trans hA1)
  clear hr1 hb1
  go_region_law (refine step_append_lies _ (by rfl) _ _ _ (by rfl) (w.heap.size + 1 + 1) 9 i0 _ 1 16 Try.underlying25 hi0 hz0 hz1 hz2 rfl (by omega) v1 recs.length (Dk.strs recs) (by rfl) (hr1'.drew.alloc _) ⟨w1.heap.size, 0, none⟩ 1 1 [.string ⟨d.toArray⟩] (by rfl) (by rfl) (World.news_of_block (cs := #[.string ⟨d.toArray⟩]) (t := 9) (fr := (0, 0)) (heap_alloc_new w1.drew _)) (by simp [Value.oneCell']) (by omega) (by unfold maxLen; omega) (by omega) (by simp; omega) (w1.heap.size + 1) (by simp) ?_; intro g cap w2 hown2 hgrow hat hlt2; have HO : Hid (w2.ownsRow (w.heap.size + 1 + 1) 9 1 (.slice (some ⟨g, 0, none⟩) (recs.length + 1) cap) (recs.length + 1) (Dk.strs recs ++ [.string ⟨d.toArray⟩])) := hown2; clear hown2; have hB2 : w2.heap[w.heap.size + 1]? = some (.cells #[.string ⟨#[]⟩, .slice none 0 0] 27 (0, 0)) := (hgrow.block _ (by simp; omega) (fun e => by have := hne _ e.symm; omega)).trans ((Below.heap_alloc w1.drew _ _ (by simp; omega)).trans hB1); have cB0 := cell_of_row _ _ 0 _ _ _ hB2; have cB1 := cell_of_row _ _ 1 _ _ _ hB2; have fB0 := frozen_of_row _ _ 0 _ _ hB2; have fB1 := frozen_of_row _ _ 1 _ _ hB2; have hA2 : w2.heap[w.heap.size]? = some (.cells #[.string ⟨snap.toArray⟩, rv] 27 (0, 0)) := (hgrow.block _ (by simp; omega) (fun e => by have := hne _ e.symm; omega)).trans ((Below.heap_alloc w1.drew _ _ (by simp; omega)).trans hA1); have cA2 := cell_of_row _ _ 0 _ _ _ hA2)
  all_goals
    go_wp2
    have hC := Dk.two_cells hB2 (.string ⟨snap.toArray⟩) (.slice (some ⟨g, 0, none⟩) (recs.length + 1) cap)
    have c0 := cell_of_row _ _ 0 _ _ _ hC
    have c1 := cell_of_row _ _ 1 _ _ _ hC
    simp only [List.getElem?_toArray, List.getElem?_cons_zero, List.getElem?_cons_succ] at c0 c1
    refine bodyPost_ret (v := .agg #[.string ⟨snap.toArray⟩, .slice (some ⟨g, 0, none⟩) (recs.length + 1) cap]) (by simp [results, Try.results13, go_sem, c0, c1]) rfl ?_
    have hb2 : Below w.heap.size w1 w2 := ((Below.refl w.heap.size w1).alloc (by omega) (.cells #[.string ⟨d.toArray⟩] 9)).drew.grown hgrow (by simp; omega) (fun k hk => by have := hne k hk; omega)
    refine ⟨_, rfl, ⟨_, rfl, ?_, ?_⟩, HBW.out.trans ?_⟩
    · rw [Dk.strs_snoc, List.length_append]
      exact Dk.row_base (ownsRow_setCell_below (ownsRow_setCell_below HO.out (by show w.heap.size + 1 < _; omega) _) (by show w.heap.size + 1 < _; omega) _)
    · intro k e
      have := (HO.out.lt k e).1
      omega
    · exact (hb2.setCell (by show w.heap.size ≤ w.heap.size + 1; omega) _).setCell (by show w.heap.size ≤ w.heap.size + 1; omega) _
end Go.Proofs
