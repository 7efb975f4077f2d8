/-
  FEED: a shelf in memory; newShelf, present, oldest.
-/
import Derived.Test.YtdhgpkacilcfgaaGreatDoorFdI
namespace Go.Proofs
open Go.RowKit Go.Wi Go.Fd Go.Sort
/-- A shelf in memory, in blocks of its own: the number of the present sheet, the kept sheets. -/
structure Tryz.Sf (w : World) (own : Nat → Prop) (sb : Nat) (N : Nat) (S : List (List Cn)) : Prop where
  ex : ∃ (g cap : Nat) (vs : List Sl), w.heap[sb]? = some (.cells #[.int .i64 N, .slice (some ⟨g, 0, none⟩) S.length cap] 58 (0, 0)) ∧
     w.ownsRow 0 48 1 (.slice (some ⟨g, 0, none⟩) S.length cap) S.length (vs.map slV) ∧ own sb ∧ own g ∧ g ≠ sb ∧
     ∀ j (hj : j < vs.length) (hs : j < S.length), Cs w (slV vs[j]) S[j] ∧ ∀ k, (slV vs[j]).ownBlock = some k → own k ∧ k ≠ sb ∧ k ≠ g
  lt : ∀ k, own k → k < w.heap.size
  len : S.length = min N 50 + 1
  most : N ≤ 9007199254740991
  few : ∀ s ∈ S, s.length ≤ 4398046511104
theorem Fd.row_keep {w w' : World} {B n k : Nat} {T : TypeId} {V : Value} {cs : List Value} (h : w.ownsRow B T k V n cs) (hk : ∀ k, V.ownBlock = some k → w'.heap[k]? = w.heap[k]?) : w'.ownsRow B T k V n cs := by
  refine ⟨h.1, ?_⟩
  rcases h.2 with h0 | ⟨b, cap, cur, e, hB, hb, h1⟩
  · exact .inl h0
  · exact .inr ⟨b, cap, cur, e, hB, by rw [hk b (by rw [e]; rfl)]; exact hb, h1⟩
theorem Tryz.Sf.keep {w w' : World} {own : Nat → Prop} {sb N : Nat} {S : List (List Cn)} (h : Tryz.Sf w own sb N S) (hk : ∀ k, own k → w'.heap[k]? = w.heap[k]?) : Tryz.Sf w' own sb N S := by
  obtain ⟨g, cap, vs, h1, h2, h3, h4, h5, h6⟩ := h.ex
  refine ⟨⟨g, cap, vs, by rw [hk sb h3]; exact h1, Fd.row_keep h2 fun k e => by cases e; exact hk g h4, h3, h4, h5, fun j hj hs => ⟨(h6 j hj hs).1.keep fun k e => hk k ((h6 j hj hs).2 k e).1, (h6 j hj hs).2⟩⟩, fun k hk' => ?_, h.len, h.most, h.few⟩
  have h7 := h.lt k hk'
  have e := hk k hk'
  rw [Array.getElem?_eq_getElem h7] at e
  exact block_lt e
theorem Tryz.Sf.mono {w : World} {own own' : Nat → Prop} {sb N : Nat} {S : List (List Cn)} (h : Tryz.Sf w own sb N S) (hm : ∀ k, own k → own' k) (hl : ∀ k, own' k → k < w.heap.size) : Tryz.Sf w own' sb N S := by
  obtain ⟨g, cap, vs, h1, h2, h3, h4, h5, h6⟩ := h.ex
  exact ⟨⟨g, cap, vs, h1, h2, hm _ h3, hm _ h4, h5, fun j hj hs => ⟨(h6 j hj hs).1, fun k e => ⟨hm k ((h6 j hj hs).2 k e).1, ((h6 j hj hs).2 k e).2⟩⟩⟩, hl, h.len, h.most, h.few⟩
theorem Tryz.Sf.below {w w' : World} {own : Nat → Prop} {sb N C : Nat} {S : List (List Cn)} (h : Tryz.Sf w own sb N S) (g : Below C w w') (hC : w.heap.size ≤ C) : Tryz.Sf w' own sb N S :=
  h.keep fun k hk => g.block k (Nat.lt_of_lt_of_le (h.lt k hk) hC)
theorem Tryz.Sf.draw {w : World} {own : Nat → Prop} {sb N : Nat} {S : List (List Cn)} (h : Tryz.Sf w own sb N S) (q : Nat) : Tryz.Sf (w.drewN q) own sb N S := h.keep fun _ _ => rfl
theorem Fd.len_pos {α : Type} {l : List α} (h : l ≠ []) : 0 < l.length := List.length_pos_iff.2 h
theorem Tryz.Sf.pos {w : World} {own : Nat → Prop} {sb N : Nat} {S : List (List Cn)} (h : Tryz.Sf w own sb N S) : S ≠ [] := by
  intro e
  have := h.len
  rw [e] at this
  simp at this
set_option maxRecDepth 20000 in
set_option maxHeartbeats 1000000 in
theorem Tryz.newShelf_any (w : World) : Calls Tryz.prog 36 #[] w fun e w' => ∃ sb, e = .returned (.pointer (some ⟨sb, 0, none⟩)) ∧ Tryz.Sf w' (fun k => w.heap.size ≤ k ∧ k < w'.heap.size) sb 0 [[]] ∧ Below w.heap.size w w' := by
  go_enter Tryz.func36, Tryz.ntmps36
  go_wp2
  go_ret
  refine ⟨_, rfl, ⟨⟨w.heap.size, 1, [(none, 0, 0)], (by rw [show w.heap.size + 1 = (w.alloc (.cells #[.slice none 0 0] 48)).heap.size by simp]; exact heap_alloc_new _ _), ⟨rfl, .inr ⟨w.heap.size, 1, _, rfl, Nat.zero_le _, (heap_alloc_old _ _ (by simp)).trans (heap_alloc_new _ _), Nat.le_refl _, by unfold maxLen; omega, rfl, rfl⟩⟩, by simp, by simp; omega, by simp, fun j hj hs => ?_⟩, fun k hk => hk.2, rfl, by omega, by simp⟩, ((Below.refl _ w).alloc (Nat.le_refl _) _).alloc (by simp) _⟩
  obtain rfl : j = 0 := by simpa using hj
  exact ⟨Cs.nil _, fun k e => by cases e⟩
/-- The present sheet, where it lies. -/
theorem Tryz.Sf.last {w : World} {own : Nat → Prop} {sb N : Nat} {S : List (List Cn)} (h : Tryz.Sf w own sb N S) : ∃ g cap v, w.heap[sb]? = some (.cells #[.int .i64 N, .slice (some ⟨g, 0, none⟩) S.length cap] 58 (0, 0)) ∧ w.cell? ⟨g, S.length - 1, none⟩ = some v ∧ Cs w v (S.getLast h.pos) ∧ ∀ k, v.ownBlock = some k → own k ∧ k ≠ sb ∧ k ≠ g := by
  have hp := h.pos
  have hl : S.length - 1 < S.length := by have := Fd.len_pos hp; omega
  obtain ⟨g, cap, vs, h1, h2, h3, h4, h5, h6⟩ := h.ex
  have hvs : vs.length = S.length := by have := h2.1; simpa using this
  refine ⟨g, cap, slV (vs[S.length - 1]'(by omega)), h1, ?_, ?_, (h6 (S.length - 1) (by omega) hl).2⟩
  · have := h2.cells (g := g) rfl (S.length - 1) (slV (vs[S.length - 1]'(by omega))) (by rw [List.getElem?_map, List.getElem?_eq_getElem (by omega)]; rfl)
    rw [Addr.add_mid, Nat.zero_add] at this
    exact this
  · have := (h6 (S.length - 1) (by omega) hl).1
    rw [List.getLast_eq_getElem]
    exact this
set_option maxRecDepth 20000 in
set_option maxHeartbeats 1000000 in
theorem Tryz.present_any {w : World} {own : Nat → Prop} {sb N : Nat} {S : List (List Cn)} (h : Tryz.Sf w own sb N S) : Calls Tryz.prog 24 #[.pointer (some ⟨sb, 0, none⟩)] w fun e w' => ∃ v, e = .returned v ∧ Cs w v (S.getLast h.pos) ∧ (∀ k, v.ownBlock = some k → own k) ∧ ∃ q, w' = w.drewN q := by
  obtain ⟨g, cap, v, h1, h2, h3, h4⟩ := h.last
  have hmx : Tryz.prog.follows .mixedOrders = true := by kernel_rfl
  have hl := Fd.len_pos h.pos
  have hl2 := h.len
  have HV : Hid (Cs w v (S.getLast h.pos) ∧ (∀ k, v.ownBlock = some k → own k)) := ⟨h3, fun k e => (h4 k e).1⟩
  have c0 : ∀ q, (w.drewN q).cell? ⟨sb, 1, none⟩ = some (.slice (some ⟨g, 0, none⟩) S.length cap) := fun q => cell_of_row (w.drewN q) sb 1 _ _ _ h1
  have c1 : ∀ q, (w.drewN q).cell? ⟨g, S.length - 1, none⟩ = some v := fun _ => h2
  obtain ⟨m, hm⟩ : ∃ m, S.length = m + 1 := ⟨S.length - 1, by omega⟩
  rw [hm] at c0
  rw [hm, Nat.add_sub_cancel] at c1
  have hm2 : m ≤ 50 := by omega
  clear h1 h2 h3 h4 hl hl2
  go_enter Tryz.func24, Tryz.ntmps24
  go_wp2_with (fail)
  go_quiet (fail)
  go_wp2
  go_ret
  exact ⟨v, rfl, HV.out.1, HV.out.2, nq, rfl⟩
set_option maxRecDepth 20000 in
set_option maxHeartbeats 1000000 in
theorem Tryz.oldest_any {w : World} {own : Nat → Prop} {sb N : Nat} {S : List (List Cn)} (h : Tryz.Sf w own sb N S) : Calls Tryz.prog 43 #[.pointer (some ⟨sb, 0, none⟩)] w fun e w' => e = .returned (.int .i64 (N - 50 : Nat)) ∧ w' = w := by
  obtain ⟨g, cap, v, h1, h2, h3, h4⟩ := h.last
  have c0 : w.cell? ⟨sb, 0, none⟩ = some (.int .i64 N) := cell_of_row w sb 0 _ _ _ h1
  have hm := h.most
  clear h1 h2 h3 h4 h
  go_enter Tryz.func43, Tryz.ntmps43
  go_wp2
  go_ret
  refine ⟨?_, rfl⟩
  rw [show ((N - 50 : Nat) : Int) = max 0 ((N : Int) - 50) by omega]
  rfl
end Go.Proofs
