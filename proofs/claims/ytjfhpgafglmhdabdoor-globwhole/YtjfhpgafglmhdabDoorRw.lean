/-
  THE DOCUMENT'S GLOB: 'Compile', walked.
-/
import Derived.Test.YtjfhpgafglmhdabDoorRp
import Derived.Test.YtjfhpgafglmhdabDoorGw
import Derived.Test.YtjfhpgafglmhdabDoorRefFold
namespace Go.Proofs
open Go.RowKit Go.Gl
theorem Tryd.info_rpart : (Tryd.prog.info? 53).map (fun i => (i.zero, i.size, i.bytes)) = some (some (.agg #[.int .i64 0, .string ⟨#[]⟩]), 2, 24) := by kernel_rfl
/-- The document's pattern in memory. -/
def Tryd.Rg (w : World) (B x : Nat) (ps : List P) : Prop :=
  ∃ v, B ≤ x ∧ w.heap[x]? = some (.cells #[v] 51) ∧ w.ownsRow B 53 2 v ps.length (cellsR ps) ∧ v.ownBlock ≠ some x
theorem Tryd.Rg.keep {w w' : World} {B x : Nat} {ps : List P} (h : Tryd.Rg w B x ps) (hb : Below w.heap.size w w') : Tryd.Rg w' B x ps := by
  obtain ⟨v, h0, h1, h2, h3⟩ := h
  exact ⟨v, h0, by rw [hb.block x (Array.getElem?_eq_some_iff.1 h1).1]; exact h1, Gl.row_below h2 hb, h3⟩
theorem Tryd.Rg.down {w : World} {B B' x : Nat} {ps : List P} (h : Tryd.Rg w B x ps) (hb : B' ≤ B) : Tryd.Rg w B' x ps := by
  obtain ⟨v, h0, h1, h2, h3⟩ := h
  exact ⟨v, by omega, h1, row_mono h2 hb, h3⟩
/-- One part more, stored back. -/
theorem Tryd.rg_next {W w' : World} {o : Obj} {B x n g cap : Nat} {v : Value} {ps : List P} {p : P} (hB : B ≤ x) (hx : W.heap[x]? = some (.cells #[v] 51)) (hvx : v.ownBlock ≠ some x) (hvb : ∀ k, v.ownBlock = some k → B ≤ k) (hn : n = ps.length)
    (hown : w'.ownsRow B 53 2 (.slice (some ⟨g, 0, none⟩) (n + 1) cap) (n + 1) (cellsR ps ++ cellsR [p])) (hg : (W.alloc o).grownBy w' v.ownBlock) (hat : v.ownBlock = some g ∨ g = W.heap.size + 1) :
    w'.cell? ⟨x, 0, none⟩ = some v ∧ w'.frozen? ⟨x, 0, none⟩ = false ∧ Tryd.Rg (w'.setCell ⟨x, 0, none⟩ (.slice (some ⟨g, 0, none⟩) (n + 1) cap)) B x (ps ++ [p]) ∧ Below B W (w'.setCell ⟨x, 0, none⟩ (.slice (some ⟨g, 0, none⟩) (n + 1) cap)) := by
  have hxl := (Array.getElem?_eq_some_iff.1 hx).1
  have hx1 : (W.alloc o).heap[x]? = some (.cells #[v] 51) := by rw [Below.heap_alloc W o x hxl]; exact hx
  have hx2 : w'.heap[x]? = some (.cells #[v] 51) := by rw [hg.block x (by simp; omega) (fun e => hvx e.symm)]; exact hx1
  have hgx : g ≠ x := by
    rcases hat with h | h
    · intro e; subst e; exact hvx h
    · omega
  have hset : (w'.setCell ⟨x, 0, none⟩ (.slice (some ⟨g, 0, none⟩) (n + 1) cap)).heap[x]? = some (.cells #[.slice (some ⟨g, 0, none⟩) (n + 1) cap] 51) := by
    simp [World.setCell, Array.getElem?_modify, hx2]
  have hbel : Below B W w' := ((Below.refl W.heap.size W).alloc (Nat.le_refl _) o).mono (by omega) |>.trans (Gl.below_grown hg (by simp; omega) hvb)
  refine ⟨by simp [World.cell?, hx2], by simp [World.frozen?, hx2], ⟨_, hB, hset, ?_, ?_⟩, hbel.setCell (p := ⟨x, 0, none⟩) hB _⟩
  · rw [cellsR_app, List.length_append, ← hn]
    refine hown.kept (row := some x) ⟨rfl, rfl, rfl, by simp [World.setCell], fun k _ hk => Below.heap_setCell _ _ _ _ (fun e => hk (by simp [e]))⟩ (.inr ?_)
    simpa [Value.ownBlock] using hgx
  · simpa [Value.ownBlock] using hgx
end Go.Proofs
