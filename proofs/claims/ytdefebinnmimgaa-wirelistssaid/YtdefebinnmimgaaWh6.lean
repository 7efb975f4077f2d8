/-
  WireLists: made.
-/
import Derived.Test.YtdefebinnmimgaaWg
import Derived.BigQuiet
namespace Go.Wi
open Go.RowKit Go.Proofs
def tc (l : List ByteArray) : List Value := l.map Value.string
theorem tc_len (l : List ByteArray) : (tc l).length = l.length := by simp [tc]
def beh : ByteArray := ⟨#[98, 101, 104, 105, 110, 100]⟩
theorem tc_one (l : List ByteArray) : ∀ u ∈ tc l, u.oneCell' = true := fun u hu => by
  obtain ⟨s, -, rfl⟩ := List.mem_map.1 hu
  rfl
theorem tc_at {l : List ByteArray} {j : Nat} (h : j < l.length) : (tc l)[j]? = some (.string l[j]) := by simp [tc, h]
theorem rcell {w : World} {B g n cap : Nat} {e : TypeId} {xs : List Value} (h : w.ownsRow B e 1 (.slice (some ⟨g, 0, none⟩) n cap) n xs) {j : Nat} {u : Value} (hu : xs[j]? = some u) : w.cell? ⟨g, j, none⟩ = some u := by
  have := h.cells (g := g) rfl j u hu
  rwa [Addr.add_mid, Nat.zero_add] at this
end Go.Wi
namespace Go.Proofs
open Go.RowKit Go.Wi
theorem Try.info_str6 : (Try.prog.info? 9).map (fun i => (i.zero, i.size, i.bytes)) = some (some (.string ⟨#[]⟩), 1, 16) := by kernel_rfl
theorem Try.info_strs6 : (Try.prog.info? 50).map (fun i => (i.zero, i.size, i.bytes)) = some (some (.slice none 0 0), 1, 24) := by kernel_rfl

set_option maxRecDepth 20000 in
theorem Try.appTx {ops : Array Oper} {rest : List Oper} {o : Oper} {a : Act} {Q : Exit → Act → World → Prop} (hgd : o.guard = none) (s y : Operand)
    (ho : o.op = .call { callee := .builtin .append, args := #[s, y], argTypes := #[50, 50] })
    {w : World} {v : Value} {li : List ByteArray} (h : Tx w v li)
    (hs : a.eval s = .slice none 0 0) (hy : a.eval y = v) (hlen : li.length * 16 ≤ 140737488355328)
    (hK : ∀ v' w1, w1.ownsRow w.heap.size 9 1 v' li.length (tc li) → Below w.heap.size w w1 → wpList Try.prog ops Q rest (a.put o.dst v') w1) : wpList Try.prog ops Q (o :: rest) a w := by
  obtain ⟨i0, hi0, hz0, hz1, hz2⟩ := info_parts Try.info_str6
  obtain ⟨ad, cap, rfl, hcs⟩ := h.ex
  have h0 : w.ownsRow w.heap.size 9 1 (.slice none 0 0) 0 [] := World.ownsRow_nil _ _ _ _
  cases ad with
  | none =>
    obtain rfl := h.nz _ _ rfl
    have e : li = [] := by
      rcases hcs with e | ⟨_, _, e, _⟩
      · exact e
      · cases e
    subst e
    refine wpList_append_own_none hgd s y 50 ho w.heap.size 9 i0 1 Try.underlying50 hi0 _ 0 [] hs h0 hy ?_
    exact hK _ w h0 (Below.refl _ _)
  | some d =>
    refine wpList_append_own w hgd s y 50 ho w.heap.size 9 i0 _ 1 16 Try.underlying50 hi0 hz0 hz1 hz2 rfl (by omega) (.slice none 0 0) 0 [] hs h0 d li.length cap (tc li) hy (by rw [tc_len]; omega) ?_ (tc_one li) (by unfold maxLen; omega) (by omega) (Nat.le_refl _) ?_
    · intro j u hu
      have hj : j < li.length := by have := (List.getElem?_eq_some_iff.1 hu).1; rwa [tc_len] at this
      rw [tc_at hj] at hu
      obtain rfl := Option.some.inj hu
      rcases hcs with e | ⟨g, o2, e, _, h2⟩
      · rw [e] at hj; simp at hj
      · have e := Option.some.inj e
        rw [e, Addr.add_mid]
        exact h2 j hj
    · intro v' w' hown hg _
      rw [Nat.zero_add, List.nil_append] at hown
      exact hK v' w' hown ((Below.refl _ w).grown hg (Nat.le_refl _) fun k e => by cases e)
/-- Lists that were lent: each with two texts behind, and two lists behind them all. -/
structure Try.Mk (w0 w : World) (ov : Value) (vs : List Value) (ll : List (List ByteArray)) : Prop where
  row : w.ownsRow w0.heap.size 50 1 ov ll.length vs
  len : vs.length = ll.length
  its : ∀ j (hj : j < ll.length), ∃ g c, vs[j]? = some (.slice (some ⟨g, 0, none⟩) ll[j].length c) ∧ w.ownsRow w0.heap.size 9 1 (.slice (some ⟨g, 0, none⟩) (ll[j].length + 2) c) (ll[j].length + 2) (tc ll[j] ++ [.string beh, .string beh])
  bel : Below w0.heap.size w0 w
theorem Wi.rowT {w : World} {B : Nat} {e : TypeId} {v : Value} {n : Nat} {xs : List Value} (h : w.ownsRow B e 1 v n xs) {g : Nat} (hg : v.ownBlock = some g) : ∃ cur, w.heap[g]? = some (.cells cur e (0, 0)) := by
  rcases h.2 with ⟨e1, _⟩ | ⟨g', cap, cur, e1, _, h2, _⟩
  · subst e1; cases hg
  · subst e1
    simp [Value.ownBlock] at hg
    subst hg
    exact ⟨cur, h2⟩
theorem Try.Mk.keep {w0 w w' : World} {ov : Value} {vs : List Value} {ll : List (List ByteArray)} (h : Try.Mk w0 w ov vs ll) (hb : Below w.heap.size w w') : Try.Mk w0 w' ov vs ll := by
  refine ⟨Wi.row_heap h.row fun k e => hb.block k (h.row.lt k e).2, h.len, fun j hj => ?_, h.bel.trans (hb.mono h.bel.size)⟩
  obtain ⟨g, c, h1, h2⟩ := h.its j hj
  exact ⟨g, c, h1, Wi.row_heap h2 fun k e => hb.block k (h2.lt k e).2⟩
/-- One list more. -/
theorem Try.Mk.next {w0 w W : World} {ov : Value} {vs : List Value} {ll : List (List ByteArray)} {l : List ByteArray} {g c g2 c2 : Nat} (h : Try.Mk w0 w ov vs ll)
    (hr : w.ownsRow w0.heap.size 9 1 (.slice (some ⟨g, 0, none⟩) (l.length + 2) c) (l.length + 2) (tc l ++ [.string beh, .string beh]))
    (hg : w.grownBy W ov.ownBlock) (ho : W.ownsRow w0.heap.size 50 1 (.slice (some ⟨g2, 0, none⟩) (ll.length + 1) c2) (ll.length + 1) (vs ++ [.slice (some ⟨g, 0, none⟩) l.length c])) :
    Try.Mk w0 W (.slice (some ⟨g2, 0, none⟩) (ll.length + 1) c2) (vs ++ [.slice (some ⟨g, 0, none⟩) l.length c]) (ll ++ [l]) := by
  have hkeep : ∀ (v : Value) n xs, w.ownsRow w0.heap.size 9 1 v n xs → W.ownsRow w0.heap.size 9 1 v n xs := fun v n xs hx => Wi.row_heap hx fun k e => by
    refine hg.block k (hx.lt k e).2 fun e2 => ?_
    obtain ⟨c1, h1⟩ := Wi.rowT hx e
    obtain ⟨c2, h2⟩ := Wi.rowT h.row e2.symm
    rw [h1] at h2
    injection h2 with h2
    injection h2 with _ h2
    exact absurd h2 (by decide)
  refine ⟨by rw [List.length_append]; exact ho, by simp [h.len], fun j hj => ?_, h.bel.grown hg h.bel.size (fun k hk => (h.row.lt k hk).1)⟩
  by_cases hj2 : j < ll.length
  · obtain ⟨g', c', h1, h2⟩ := h.its j hj2
    rw [List.getElem_append_left hj2]
    exact ⟨g', c', by rw [List.getElem?_append_left (by rw [h.len]; exact hj2)]; exact h1, hkeep _ _ _ h2⟩
  · have e : j = ll.length := by simp at hj; omega
    subst e
    have e2 : (ll ++ [l])[ll.length] = l := by simp
    rw [e2]
    exact ⟨g, c, by rw [List.getElem?_append_right (by rw [h.len]; exact Nat.le_refl _), h.len, Nat.sub_self]; rfl, hkeep _ _ _ hr⟩
end Go.Proofs
