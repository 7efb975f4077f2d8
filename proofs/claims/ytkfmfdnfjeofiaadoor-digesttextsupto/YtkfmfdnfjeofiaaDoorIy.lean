/-
  Rows of texts, and of rows of bytes, of one's own: 'append'.
-/
import Derived.Test.YtkfmfdnfjeofiaaDoorIv
namespace Go.Dg
open Go.RowKit Go.Wi
/-- A row of things of one cell each, of one's own, above a floor. -/
def Ov (w : World) (B : Nat) (V : Value) (vs : List Value) : Prop :=
  (V = .slice none 0 0 ∧ vs = []) ∨ ∃ g cap, V = .slice (some ⟨g, 0, none⟩) vs.length cap ∧ B ≤ g ∧ g < w.heap.size ∧ vs.length ≤ cap ∧ (∀ j u, vs[j]? = some u → w.cell? ⟨g, j, none⟩ = some u) ∧ ∀ j, j < cap → (w.cell? ⟨g, j, none⟩).isSome = true ∧ w.frozen? ⟨g, j, none⟩ = false
theorem Ov.nil (w : World) (B : Nat) : Ov w B (.slice none 0 0) [] := .inl ⟨rfl, rfl⟩
theorem Ov.ofRow {w : World} {B n : Nat} {T : TypeId} {V : Value} {l : List Value} (h : w.ownsRow B T 1 V n l) : Ov w B V l := by
  have hn : n = l.length := by have := h.1; omega
  subst hn
  rcases h.2 with ⟨h1, h2⟩ | ⟨g, cap, cur, rfl, hB, hg, h3, h4, h5, h6⟩
  · exact .inl ⟨h1, List.eq_nil_of_length_eq_zero h2⟩
  · refine .inr ⟨g, cap, rfl, hB, block_lt hg, h3, fun j u hu => ?_, fun j hj => ⟨?_, frozen_of_row _ _ _ _ _ hg⟩⟩
    · rw [cell_of_row _ _ _ _ _ _ hg]
      rw [← h6, List.getElem?_take] at hu
      split at hu
      · rw [← Array.getElem?_toList]; exact hu
      · cases hu
    · rw [cell_of_row _ _ _ _ _ _ hg, Array.getElem?_eq_getElem (by omega)]; rfl
theorem Ov.keep {w w' : World} {B : Nat} {V : Value} {l : List Value} (h : Ov w B V l) (hk : ∀ k, V.ownBlock = some k → w'.heap[k]? = w.heap[k]?) : Ov w' B V l := by
  rcases h with h | ⟨g, cap, rfl, h1, h2, h3, h4, h5⟩
  · exact .inl h
  · have e := hk g rfl
    have e2 : g < w'.heap.size := by
      rw [Array.getElem?_eq_getElem h2] at e
      exact block_lt e
    exact .inr ⟨g, cap, rfl, h1, e2, h3, fun j u hu => (World.cell?_of_block (a := ⟨g, j, none⟩) e).trans (h4 j u hu), fun j hj => ⟨by rw [World.cell?_of_block (a := ⟨g, j, none⟩) e]; exact (h5 j hj).1, (World.frozen?_of_block (a := ⟨g, j, none⟩) e).trans (h5 j hj).2⟩⟩
theorem Ov.lt {w : World} {B : Nat} {V : Value} {l : List Value} (h : Ov w B V l) : ∀ k, V.ownBlock = some k → B ≤ k ∧ k < w.heap.size := by
  rcases h with ⟨rfl, _⟩ | ⟨g, cap, rfl, h1, h2, _⟩
  · intro k e; cases e
  · intro k e; cases e; exact ⟨h1, h2⟩
theorem Ov.below {w w' : World} {B C : Nat} {V : Value} {l : List Value} (h : Ov w B V l) (g : Below C w w') (hC : w.heap.size ≤ C) : Ov w' B V l := h.keep fun k e => g.block k (Nat.lt_of_lt_of_le (h.lt k e).2 hC)
theorem Ov.mono {w : World} {B B' : Nat} {V : Value} {l : List Value} (h : Ov w B V l) (hB : B' ≤ B) : Ov w B' V l := by
  rcases h with h | ⟨g, cap, rfl, h1, h2⟩
  · exact .inl h
  · exact .inr ⟨g, cap, rfl, Nat.le_trans hB h1, h2⟩
theorem Ov.is {w : World} {B : Nat} {V : Value} {l : List Value} (h : Ov w B V l) : ∃ ad cap, V = .slice ad l.length cap := by
  rcases h with ⟨rfl, rfl⟩ | ⟨g, cap, rfl, _⟩
  · exact ⟨none, 0, rfl⟩
  · exact ⟨_, _, rfl⟩
theorem Ov.at {w : World} {B : Nat} {V : Value} {l : List Value} (h : Ov w B V l) (hl : 0 < l.length) : ∃ g cap, V = .slice (some ⟨g, 0, none⟩) l.length cap ∧ ∀ j u, l[j]? = some u → w.cell? ⟨g, j, none⟩ = some u := by
  rcases h with ⟨rfl, rfl⟩ | ⟨g, cap, rfl, h1, h2, h3, h4, h5⟩
  · simp at hl
  · exact ⟨g, cap, rfl, h4⟩
end Go.Dg
namespace Go.Proofs
open Go.RowKit Go.Wi Go.Dg
/-- 'append' of some things, which lie in a block, to a row of one's own. -/
theorem Dg.ov_app {P : Program} {t e : TypeId} {i : TypeInfo} {z : Value} {bytes : Nat} (ty : TypeId) (ht : P.underlying t = some (.slice e)) (hi : P.info? e = some i) (hz : i.zero = some z) (hz1 : i.size = 1) (hz2 : i.bytes = bytes) (hzs : z.cells.size = 1)
    {w : World} {B : Nat} {V : Value} {l : List Value} (h : Ov w B V l) (hB : B ≤ w.heap.size) (xs : List Value) (k g0 : Nat) (hk : k = xs.length) (h0 : 0 < k)
    (hnb : w.heap[g0]? = some (.cells xs.toArray e (0, 0))) (hone : ∀ u ∈ xs, u.oneCell' = true) (hlen : (l.length + xs.length) * bytes ≤ 140737488355328) (hmax : l.length + xs.length ≤ maxLen) :
    ∃ ad cap w1, (Builtin.append_ #[t, t] ty #[V, .slice (some ⟨g0, 0, none⟩) k k]).run P w = .ok (.slice ad (l.length + k : Nat) cap) w1 ∧ Ov w1 B (.slice ad (l.length + k : Nat) cap) (l ++ xs) ∧ ((∃ g, V = .slice (some ⟨g, 0, none⟩) l.length cap ∧ ad = some ⟨g, 0, none⟩ ∧ Wo (fun k => k = g) w w1) ∨ (Below w.heap.size w w1 ∧ ∀ k', (Value.slice ad (l.length + k : Nat) cap).ownBlock = some k' → w.heap.size ≤ k')) := by
  subst hk
  have hnews : ∀ (j : Nat) u, xs[j]? = some u → w.cell? ((⟨g0, 0, none⟩ : Addr).add j) = some u := World.news_of_block (cs := xs.toArray) hnb
  have grown : ∀ v' w', w'.ownsRow w.heap.size e 1 v' (l.length + xs.length) (l ++ xs) → w.grownBy w' none →
      ∃ ad cap, v' = .slice ad (l.length + xs.length : Nat) cap ∧ Ov w' B v' (l ++ xs) ∧ Below w.heap.size w w' ∧ ∀ k', v'.ownBlock = some k' → w.heap.size ≤ k' := by
    intro v' w' ho hg
    have h1 := Ov.ofRow ho
    obtain ⟨ad, cap, e⟩ := h1.is
    rw [List.length_append] at e
    exact ⟨ad, cap, e, h1.mono hB, Wo.toBelow (own := fun _ => False) (Below.refl _ w) ((Wo.refl _ w).grown hg (fun k e => by cases e)) (fun _ e => e.elim) (Nat.le_refl _), fun k' e' => (h1.lt k' e').1⟩
  rcases h with ⟨rfl, rfl⟩ | ⟨g, cap, rfl, h1, h2, h3, h4, h5⟩
  · obtain ⟨v', w', hrun, r1, r2, _⟩ := run_append_own (P := P) w w.heap.size t ty e i _ 1 bytes ht hi hz hz1 hz2 hzs (by omega) (.slice none 0 0) 0 [] (World.ownsRow_nil w _ _ _) ⟨g0, 0, none⟩ xs.length xs.length xs (by omega) hnews hone (by simpa using hmax) (by simpa using hlen) (Nat.le_refl _)
    obtain ⟨ad, cap, rfl, g1, g2, g3⟩ := grown v' w' r1 r2
    exact ⟨ad, cap, w', hrun, g1, .inr ⟨g2, g3⟩⟩
  · by_cases hr : l.length + xs.length ≤ cap
    · have hsp : ∀ j, j < xs.length → (w.cell? ⟨g, 0 + l.length * i.size + j, none⟩).isSome = true ∧ w.frozen? ⟨g, 0 + l.length * i.size + j, none⟩ = false := fun j hj => by
        rw [hz1]
        exact h5 _ (by omega)
      have hrun := run_append_room_cells (P := P) w t ty e i ht hi g 0 l.length cap ⟨g0, 0, none⟩ xs.length xs.length xs (by rw [hz1]; omega) hnews hone hr (fun j hj => (hsp j hj).1) (fun j hj => (hsp j hj).2)
      have hwo := Dg.setCells_wo g xs (0 + l.length * i.size) w
      rw [hz1, Nat.zero_add, Nat.mul_one] at hrun hwo
      refine ⟨_, cap, _, hrun, .inr ⟨g, cap, by rw [List.length_append], h1, Nat.lt_of_lt_of_le h2 hwo.size, by rw [List.length_append]; exact hr, fun j u hu => ?_, fun j hj => ⟨World.isSome_setCells g _ _ w _ (h5 j hj).1, by rw [World.frozen?_setCells]; exact (h5 j hj).2⟩⟩, .inl ⟨g, rfl, rfl, hwo⟩⟩
      by_cases hj : j < l.length
      · rw [World.cell?_setCells_out g _ _ w _ fun _ _ => .inl hj]
        rw [List.getElem?_append_left (by omega)] at hu
        exact h4 j u hu
      · rw [List.getElem?_append_right (by omega)] at hu
        obtain ⟨hj2, e⟩ := List.getElem?_eq_some_iff.1 hu
        have := World.cell?_setCells_in g xs l.length w (fun i hi => (h5 _ (by omega)).1) (j - l.length) hj2
        rw [show l.length + (j - l.length) = j by omega, e] at this
        exact this
    · obtain ⟨v', w', hrun, r1, r2⟩ := run_append_arg_grows (P := P) w t ty e i _ 1 bytes ht hi hz hz1 hz2 hzs (by omega) ⟨g, 0, none⟩ l.length cap l (by omega) (fun j u hj => by rw [Addr.add_mid, Nat.zero_add]; exact h4 j u hj) ⟨g0, 0, none⟩ xs.length xs.length xs (by omega) hnews (by omega) hmax hlen
      obtain ⟨ad, cap', rfl, g1, g2, g3⟩ := grown v' w' r1 r2
      exact ⟨ad, cap', w', hrun, g1, .inr ⟨g2, g3⟩⟩
/-- At a step of a region. -/
theorem Dg.appV {P : Program} {ops : Array Oper} {rest : List Oper} {o : Oper} {a : Act} {Q : Exit → Act → World → Prop} {t e : TypeId} {i : TypeInfo} {z : Value} {bytes : Nat} (hgd : o.guard = none) (s y : Operand)
    (ho : o.op = .call { callee := .builtin .append, args := #[s, y], argTypes := #[t, t] }) (ht : P.underlying t = some (.slice e)) (hi : P.info? e = some i) (hz : i.zero = some z) (hz1 : i.size = 1) (hz2 : i.bytes = bytes) (hzs : z.cells.size = 1)
    {w : World} {B : Nat} {V : Value} {l : List Value} (h : Ov w B V l) (hB : B ≤ w.heap.size) (hs : a.eval s = V) (xs : List Value) (k g0 : Nat) (hy : a.eval y = .slice (some ⟨g0, 0, none⟩) k k) (hk : k = xs.length) (h0 : 0 < k)
    (hnb : w.heap[g0]? = some (.cells xs.toArray e (0, 0))) (hone : ∀ u ∈ xs, u.oneCell' = true) (hlen : (l.length + xs.length) * bytes ≤ 140737488355328) (hmax : l.length + xs.length ≤ maxLen)
    (hK : ∀ ad cap w1, Ov w1 B (.slice ad (l.length + k : Nat) cap) (l ++ xs) → ((∃ g, V = .slice (some ⟨g, 0, none⟩) l.length cap ∧ ad = some ⟨g, 0, none⟩ ∧ Wo (fun k => k = g) w w1) ∨ (Below w.heap.size w w1 ∧ ∀ k', (Value.slice ad (l.length + k : Nat) cap).ownBlock = some k' → w.heap.size ≤ k')) → wpList P ops Q rest (a.put o.dst (.slice ad (l.length + k : Nat) cap)) w1) : wpList P ops Q (o :: rest) a w :=
  wpList_plain hgd fun _ hk' => by
    obtain ⟨ad, cap, w1, hrun, h1, h2⟩ := Dg.ov_app o.type ht hi hz hz1 hz2 hzs h hB xs k g0 hk h0 hnb hone hlen hmax
    unfold Oper.wp
    simp [execOp, ho, resolve, invoke, builtin, hs, hy, hrun, Result.andThen]
    exact hk' _ _ (hK ad cap w1 h1 h2)
end Go.Proofs
