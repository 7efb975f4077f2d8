/-
  A copy of a row.
-/
import Derived.Test.YtfchhiphjebkfaaQa
import Derived.Deep.Upon
import Derived.RangeFuncNested
import Derived.RangeFuncBound
import Derived.RangeFuncCalls
import Derived.RangeFuncLeaves
namespace Go.Qu
open Go.RowKit Go.Wi
theorem wpList_app {P : Program} {ops : Array Oper} {rest : List Oper} {o : Oper} {a : Act} {w w' : World} {Q : Exit → Act → World → Prop} (hgd : o.guard = none) (s x : Operand) (t : TypeId)
    (ho : o.op = .call { callee := .builtin .append, args := #[s, x], argTypes := #[t, t] }) {u1 u2 v : Value} (hs : a.eval s = u1) (hx : a.eval x = u2)
    (hr : (Builtin.append_ #[t, t] o.type #[u1, u2]).run P w = .ok v w') (h : wpList P ops Q rest (a.put o.dst v) w') : wpList P ops Q (o :: rest) a w := by
  refine wpList_plain hgd fun K hK => ?_
  unfold Oper.wp execOp
  simp only [ho, resolve, invoke, builtin, Sem.run_bind, Sem.run_pure, Result.andThen_ok, List.map_toArray, List.map_cons, List.map_nil, hs, hx, hr]
  exact hK _ _ h
theorem app_clone {P : Program} {ops : Array Oper} {rest : List Oper} {o : Oper} {a : Act} {Q : Exit → Act → World → Prop} (hgd : o.guard = none) (s y : Operand) {t e : TypeId} {i : TypeInfo} {z : Value} {bytes : Nat}
    (ho : o.op = .call { callee := .builtin .append, args := #[s, y], argTypes := #[t, t] }) (ht : P.underlying t = some (.slice e)) (hi : P.info? e = some i) (hz : i.zero = some z) (hsz : i.size = 1) (hby : i.bytes = bytes) (hzs : z.cells.size = 1) (hb16 : bytes ≤ 16)
    {w : World} {ad : Addr} {len cap : Nat} {g : Option Nat} {xs : List Value} (h : Row e w (.slice (some ad) len cap) g xs) (hn : xs.length ≤ 1000000) (h1 : ∀ u ∈ xs, u.oneCell' = true) (hs : a.eval s = .slice (some ⟨w.heap.size, 0, none⟩) 0 0) (hy : a.eval y = .slice (some ad) len cap)
    (hK : ∀ ad n cap w1, (∃ g', Row e w1 (.slice ad n cap) g' xs ∧ ∀ k, g' = some k → w.heap.size ≤ k) → Below w.heap.size w w1 → wpList P ops Q rest (a.put o.dst (.slice ad n cap)) w1) : wpList P ops Q (o :: rest) a (w.alloc (.cells #[] e)) := by
  have hb0 := (Below.refl w.heap.size w).alloc (Nat.le_refl _) (.cells #[] e)
  have hlen : len = xs.length := by
    rcases h.ex with ⟨a1, e1, rfl, _⟩ | ⟨k, o, c, cur, e1, _⟩
    · cases e1; rfl
    · cases e1; rfl
  by_cases h0 : xs = []
  · subst h0
    subst hlen
    refine wpList_app hgd s y t ho hs hy (run_append_nothing (P := P) _ t t o.type e i ht hi (some ⟨w.heap.size, 0, none⟩) 0 0 (Nat.le_refl _) (.slice (some ad) 0 cap) (Src.ofSlice _ ht ad 0 cap [] (by simp) (fun j u hj => by simp at hj) (fun u hu => by cases hu))) ?_
    exact hK _ _ _ _ ⟨none, ⟨.inl ⟨_, rfl, rfl, rfl⟩⟩, fun k e => by cases e⟩ hb0
  · have hpos : 0 < xs.length := List.length_pos_iff.2 h0
    have hbb : xs.length * bytes ≤ 140737488355328 := by
      have := Nat.mul_le_mul hn hb16
      omega
    rcases h.ex with ⟨a1, e1, e2, _⟩ | ⟨k, of, c, cur, e1, e2, h3, h4, h5, h6, h7⟩
    · exact absurd e2 h0
    · cases e1
      have hkl := block_lt h3
      have h3' : (w.alloc (.cells #[] e)).heap[k]? = some (.cells cur e (0, 0)) := (hb0.block k hkl).trans h3
      refine wpList_append_grows _ hgd s y t ho e i z 1 bytes ht hi hz hsz hby hzs (by omega) (some ⟨w.heap.size, 0, none⟩) 0 0 [] hs (fun e => by cases e) rfl (fun b _ j u hj => by simp at hj) ⟨k, of, none⟩ xs.length cap xs hy (by omega) (fun j u hj => ?_) h1 (by omega) (by unfold maxLen; omega) (by simpa using hbb) ?_
      · rw [Addr.add_mid, cell_of_row _ _ _ _ _ _ h3']; exact h7 j u hj
      · intro v' w' hown hgr
        have hbel : Below w.heap.size w w' := hb0.grown hgr (by simp) (fun k hk => by cases hk)
        rw [Nat.zero_add, List.nil_append] at hown
        rcases hown.2 with ⟨_, e0⟩ | ⟨k', cap', cur', rfl, hB, hg, a1, a2, a3, a4⟩
        · omega
        · refine hK _ _ _ w' ⟨some k', ⟨.inr ⟨k', 0, cap', cur', rfl, rfl, hg, by omega, by omega, by omega, fun j u hj => ?_⟩⟩, fun q e => ?_⟩ hbel
          · rw [← a4, List.getElem?_take] at hj
            split at hj
            · rw [Nat.zero_add, ← Array.getElem?_toList]; exact hj
            · cases hj
          · cases e; simp at hB; omega
/-- These blocks are as they were. -/
structure Kp (own : Nat → Prop) (W W' : World) : Prop where
  size : W.heap.size ≤ W'.heap.size
  block : ∀ k, own k → W'.heap[k]? = W.heap[k]?
theorem Kp.refl (own : Nat → Prop) (W : World) : Kp own W W := ⟨Nat.le_refl _, fun _ _ => rfl⟩
theorem Kp_t {own : Nat → Prop} {A B C : World} (h : Kp own A B) (k : Kp own B C) : Kp own A C := ⟨Nat.le_trans h.size k.size, fun i e => (k.block i e).trans (h.block i e)⟩
theorem Kp_b {own : Nat → Prop} {w : World} (hn : ∀ k, own k → k < w.heap.size) (W : World) (l : Nat) (o o' : Obj) (hl : w.heap.size ≤ l) (_h : W.heap[l]? = some o) (_ : o.isCells = false) (_ : o.isWalk = false) : Kp own W (W.putObj l o') :=
  ⟨(grownBy_putObj' W l o').size, fun k e => World.putObj_heap_other (fun e1 => by have := hn k e; omega)⟩
/-- A copy in a box, in blocks of their own. -/
structure Sq (T e : TypeId) (w : World) (own : Nat → Prop) (x : Nat) (xs : List Value) : Prop where
  ex : ∃ v g, w.heap[x]? = some (.cells #[v] T (0, 0)) ∧ Row e w v g xs ∧ ∀ k, g = some k → own k
  ox : own x
  lt : ∀ k, own k → k < w.heap.size
theorem Sq.keep {T e : TypeId} {w w' : World} {own : Nat → Prop} {x : Nat} {xs : List Value} (h : Sq T e w own x xs) (hk : Kp own w w') : Sq T e w' own x xs := by
  obtain ⟨v, g, h1, h2, h3⟩ := h.ex
  exact ⟨⟨v, g, (hk.block x h.ox).trans h1, h2.keep fun k e => hk.block k (h3 k e), h3⟩, h.ox, fun k e => Nat.lt_of_lt_of_le (h.lt k e) hk.size⟩
end Go.Qu
