/-
  A pair more.
-/
import Derived.Test.YtnfpocpeglfdbaaDyS
import Derived.Test.YtnfpocpeglfdbaaDyH
import Derived.Deep.AppendLies
namespace Go.Proofs
open Go.RowKit Go.Wi
theorem Try.info_pair : (Try.prog.info? 44).map (fun i => (i.zero.map (·.cells.size), i.size, i.bytes)) = some (some 2, 2, 16) := by kernel_rfl
theorem Try.appPair {ops : Array Oper} {rest : List Oper} {o : Oper} {a : Act} {Q : Exit → Act → World → Prop} (hgd : o.guard = none) (s y : Operand)
    (ho : o.op = .call { callee := .builtin .append, args := #[s, y], argTypes := #[25, 25] })
    {w : World} {H : Nat} {V : Value} {ps : List Dk.Pq} {p : Dk.Pq} (hrow : w.ownsRow 0 44 2 V ps.length (Dk.pcs ps)) (hs : a.eval s = V) (hnb : w.heap[H]? = some (.cells #[.pointer (some ⟨p.d, 0, none⟩), .pointer (some ⟨p.r, 0, none⟩)] 44 (0, 0))) (hy : a.eval y = .slice (some ⟨H, 0, none⟩) 1 1) (hlen : ps.length ≤ 1000000)
    (hK : ∀ g cap w', w'.ownsRow 0 44 2 (.slice (some ⟨g, 0, none⟩) (ps.length + 1) cap) (ps.length + 1) (Dk.pcs (ps ++ [p])) → w.grownBy w' V.ownBlock → (V.ownBlock = some g ∨ g = w.heap.size) → wpList Try.prog ops Q rest (a.put o.dst (.slice (some ⟨g, 0, none⟩) (ps.length + 1) cap)) w') : wpList Try.prog ops Q (o :: rest) a w := by
  obtain ⟨i0, hi0, hi1⟩ := Option.map_eq_some_iff.1 Try.info_pair
  simp only [Prod.mk.injEq] at hi1
  obtain ⟨hz0, hz1, hz2⟩ := hi1
  obtain ⟨zz, hzz, hzs⟩ := Option.map_eq_some_iff.1 hz0
  refine wpList_append_lies _ hgd s y 25 ho 0 44 i0 zz 2 16 Try.underlying25 hi0 hzz hz1 hz2 hzs (by omega) V ps.length (Dk.pcs ps) hs hrow ⟨H, 0, none⟩ 1 1 [.pointer (some ⟨p.d, 0, none⟩), .pointer (some ⟨p.r, 0, none⟩)] hy rfl (World.news_of_block hnb) (by simp [Value.oneCell']) (by omega) (by unfold maxLen; omega) (by omega) (Nat.zero_le _) _ rfl ?_
  intro g cap w' h1 h2 h3 h4
  have e : Dk.pcs ps ++ [.pointer (some ⟨p.d, 0, none⟩), .pointer (some ⟨p.r, 0, none⟩)] = Dk.pcs (ps ++ [p]) := by rw [Dk.pcs_app]; rfl
  rw [e] at h1
  exact hK g cap w' h1 h2 h3
theorem Try.stepPair {ops : Array Oper} {o : Oper} {a : Act} {K : Act → World → Prop} {Q : Exit → Act → World → Prop} {E : Prop} (hgd : o.guard = none) (s y : Operand)
    (ho : o.op = .call { callee := .builtin .append, args := #[s, y], argTypes := #[25, 25] })
    {w : World} {H : Nat} {V : Value} {ps : List Dk.Pq} {p : Dk.Pq} (hrow : w.ownsRow 0 44 2 V ps.length (Dk.pcs ps)) (hs : a.eval s = V) (hnb : w.heap[H]? = some (.cells #[.pointer (some ⟨p.d, 0, none⟩), .pointer (some ⟨p.r, 0, none⟩)] 44 (0, 0))) (hy : a.eval y = .slice (some ⟨H, 0, none⟩) 1 1) (hlen : ps.length ≤ 1000000)
    (hK : ∀ g cap w', w'.ownsRow 0 44 2 (.slice (some ⟨g, 0, none⟩) (ps.length + 1) cap) (ps.length + 1) (Dk.pcs (ps ++ [p])) → w.grownBy w' V.ownBlock → (V.ownBlock = some g ∨ g = w.heap.size) → K (a.put o.dst (.slice (some ⟨g, 0, none⟩) (ps.length + 1) cap)) w') : if Region.wanted o (yielded ops a.tmps) = true then Oper.wp Try.prog o a w K Q else E := by
  obtain ⟨i0, hi0, hi1⟩ := Option.map_eq_some_iff.1 Try.info_pair
  simp only [Prod.mk.injEq] at hi1
  obtain ⟨hz0, hz1, hz2⟩ := hi1
  obtain ⟨zz, hzz, hzs⟩ := Option.map_eq_some_iff.1 hz0
  refine step_append_lies w hgd s y 25 ho 0 44 i0 zz 2 16 Try.underlying25 hi0 hzz hz1 hz2 hzs (by omega) V ps.length _ hs hrow ⟨H, 0, none⟩ 1 1 [.pointer (some ⟨p.d, 0, none⟩), .pointer (some ⟨p.r, 0, none⟩)] hy rfl (World.news_of_block hnb) (by simp [Value.oneCell']) (by omega) (by unfold maxLen; omega) (by omega) (Nat.zero_le _) _ rfl ?_
  intro g cap w' h1 h2 h3 h4
  have e : Dk.pcs ps ++ [.pointer (some ⟨p.d, 0, none⟩), .pointer (some ⟨p.r, 0, none⟩)] = Dk.pcs (ps ++ [p]) := by rw [Dk.pcs_app]; rfl
  rw [e] at h1
  exact hK g cap w' h1 h2 h3
theorem Try.Zw.lrow2 {B : Nat} {w0 w : World} {wb : Nat} {G : Dk.Gs} {ps : List Dk.Pq} {H : Nat} {rv : Nat → Value} {rb : Nat → List UInt8} (h : Try.Zw B w0 w wb G ps H rv rb) : ∃ ad cap kv, w.heap[wb]? = some (.cells #[.slice ad ps.length cap, kv] 28 (0, 0)) ∧ ps.length ≤ cap ∧ w.ownsRow 0 44 2 (.slice ad ps.length cap) ps.length (Dk.pcs ps) ∧ (Value.slice ad ps.length cap).ownBlock ≠ some wb := by
  obtain ⟨tag, lv, kv, hs, g, -⟩ := h.ex
  obtain ⟨ad, cap, e, h1, h2, h3⟩ := Dk.rowForm g.lr
  subst e
  exact ⟨ad, cap, kv, g.bl, h3, g.lr, fun e => by have h1 := g.lo _ e; rw [g.tw] at h1; omega⟩
/-- A pair more: w holds all, w1 holds the new disks besides, w2 is behind 'append'. -/
theorem Try.Zw.push {B : Nat} {w0 w w1 w2 : World} {wb : Nat} {G : Dk.Gs} {ps : List Dk.Pq} {H : Nat} {rv : Nat → Value} {rb : Nat → List UInt8} (h : Try.Zw B w0 w wb G ps H rv rb) {V kv : Value} (hc : w.heap[wb]? = some (.cells #[V, kv] 28 (0, 0))) (hb : Below w.heap.size w w1) {own own2 : Nat → Prop} {p : Dk.Pq} (hD : Try.Dsk w1 own p.d p.s) (hR : Try.Rf w1 own2 p.r p.t) (h1 : ∀ k, own k → w.heap.size ≤ k) (h2 : ∀ k, own2 k → w.heap.size ≤ k ∧ ¬ own k) (hg : w1.grownBy w2 V.ownBlock) {g cap n : Nat} (hn : n = ps.length + 1) (hown : w2.ownsRow 0 44 2 (.slice (some ⟨g, 0, none⟩) n cap) n (Dk.pcs (ps ++ [p]))) (hat : V.ownBlock = some g ∨ w1.heap.size ≤ g) :
    Try.Zw B w0 (w2.setCell ⟨wb, 0, none⟩ (.slice (some ⟨g, 0, none⟩) n cap)) wb G (ps ++ [p]) H rv rb := by
  classical
  subst hn
  obtain ⟨tag, lv, kv', hs, z, z2, z3⟩ := h.ex
  have hV : lv = V ∧ kv' = kv := by
    have e := z.bl.symm.trans hc
    simp at e
    exact e
  obtain ⟨rfl, rfl⟩ := hV
  have htv : ∀ k, lv.ownBlock = some k → tag k = 2 := z.lo
  have hwl : wb < w.heap.size := Dk.block_lt hc
  have hsz1 := hb.size
  have hwbV : lv.ownBlock ≠ some wb := fun e => by have := htv wb e; rw [z.tw] at this; omega
  have htw : w2.heap[wb]? = some (.cells #[lv, kv'] 28 (0, 0)) := (hg.block wb (by omega) (fun e => hwbV e.symm)).trans ((hb.block wb hwl).trans z.bl)
  have hgl := (hown.lt g rfl).2
  have hgw : g ≠ wb := fun e => by
    rcases hat with e1 | e1
    · rw [e] at e1; exact hwbV e1
    · omega
  have hwo : Wo (fun k => tag k = 1 ∨ tag k = 2) w (w2.setCell ⟨wb, 0, none⟩ (.slice (some ⟨g, 0, none⟩) (ps.length + 1) cap)) := ((Wo.ofBelow hb).grown hg fun k e => .inl (.inr (htv k e))).setCell wb 0 _ (.inl (.inl z.tw))
  have hs2 : (w2.setCell ⟨wb, 0, none⟩ (.slice (some ⟨g, 0, none⟩) (ps.length + 1) cap)).heap.size = w2.heap.size := by simp
  have hkeep : ∀ k, k < w1.heap.size → lv.ownBlock ≠ some k → k ≠ wb → (w2.setCell ⟨wb, 0, none⟩ (.slice (some ⟨g, 0, none⟩) (ps.length + 1) cap)).heap[k]? = w1.heap[k]? := fun k e1 e2 e3 => (Below.heap_setCell w2 ⟨wb, 0, none⟩ _ k e3).trans (hg.block k e1 (fun e => e2 e.symm))
  have hv1 : ∀ k, lv.ownBlock = some k → k < w.heap.size := fun k e => (z.lt k (by rw [htv k e]; decide)).2
  have hD' := hD.keep (w' := w2.setCell ⟨wb, 0, none⟩ (.slice (some ⟨g, 0, none⟩) (ps.length + 1) cap)) (fun k e => hkeep k (hD.lt k e) (fun e1 => by have := hv1 k e1; have := h1 k e; omega) (fun e1 => by have := h1 k e; omega)) (by rw [hs2]; exact hg.size)
  have hR' := hR.keep (w' := w2.setCell ⟨wb, 0, none⟩ (.slice (some ⟨g, 0, none⟩) (ps.length + 1) cap)) (fun k e => hkeep k (hR.lt k e) (fun e1 => by have := hv1 k e1; have := (h2 k e).1; omega) (fun e1 => by have := (h2 k e).1; omega)) (by rw [hs2]; exact hg.size)
  obtain ⟨tag', ht'⟩ : ∃ tag' : Nat → Nat, tag' = fun k => if k = g then 2 else if own k then 10 + 2 * ps.length else if own2 k then 11 + 2 * ps.length else tag k := ⟨_, rfl⟩
  have hog : ¬ own g ∧ ¬ own2 g := by
    refine ⟨fun e => ?_, fun e => ?_⟩
    · have a1 := h1 g e; have a2 := hD.lt g e
      rcases hat with e1 | e1
      · have := hv1 g e1; omega
      · omega
    · have a1 := (h2 g e).1; have a2 := hR.lt g e
      rcases hat with e1 | e1
      · have := hv1 g e1; omega
      · omega
  have t1 : ∀ k, tag' k ≠ 0 → B ≤ k ∧ k < w2.heap.size := fun k e => by
    have hB := z.le
    have hz := hg.size
    rw [ht'] at e
    by_cases e1 : k = g
    · refine ⟨?_, by omega⟩
      rcases hat with e2 | e2
      · rw [e1]; exact (z.lt g (by rw [htv g e2]; decide)).1
      · omega
    · by_cases e2 : own k
      · have := h1 k e2; have := hD.lt k e2; omega
      · by_cases e3 : own2 k
        · have := (h2 k e3).1; have := hR.lt k e3; omega
        · simp only [if_neg e1, if_neg e2, if_neg e3] at e
          have := z.lt k e; omega
  have t2 : ∀ j, ¬ (j = 1 ∨ j = 2 ∨ j = 10 + 2 * ps.length ∨ j = 11 + 2 * ps.length) → j ≠ 0 → (fun k => tag' k = j) = (fun k => tag k = j) := fun j hj hj0 => by
    funext k
    rw [ht']
    simp only
    by_cases e1 : k = g
    · rw [if_pos e1]
      apply propext
      constructor
      · intro e; omega
      · intro e
        exfalso
        rcases hat with e2 | e2
        · rw [← e1] at e2; have := htv k e2; omega
        · have := z.lt k (by omega); omega
    · by_cases e2 : own k
      · rw [if_neg e1, if_pos e2]
        apply propext
        constructor
        · intro e; omega
        · intro e; have := z.lt k (by omega); have := h1 k e2; omega
      · by_cases e3 : own2 k
        · rw [if_neg e1, if_neg e2, if_pos e3]
          apply propext
          constructor
          · intro e; omega
          · intro e; have := z.lt k (by omega); have := (h2 k e3).1; omega
        · rw [if_neg e1, if_neg e2, if_neg e3]
  have tw' : tag' wb = 1 := by
    rw [ht']
    simp only
    rw [if_neg (fun e => hgw e.symm), if_neg (fun e => by have := h1 wb e; omega), if_neg (fun e => by have := (h2 wb e).1; omega)]
    exact z.tw
  have bl' := heap_setCell_same w2 wb 0 _ _ (.slice (some ⟨g, 0, none⟩) (ps.length + 1) cap) htw
  obtain ⟨-, -, o3, o4, o5, o6, o7⟩ := z.others (fun j => j = 1 ∨ j = 2 ∨ j = 10 + 2 * ps.length ∨ j = 11 + 2 * ps.length) (tag' := tag') (w' := w2.setCell ⟨wb, 0, none⟩ (.slice (some ⟨g, 0, none⟩) (ps.length + 1) cap)) t2 (fun k e1 e2 => hwo.block k (z.lt k e2).2 (fun e => by rcases e with e | e <;> omega)) hwo.size
  refine ⟨⟨tag', _, kv', hs, ⟨fun k e => ⟨(t1 k e).1, by rw [hs2]; exact (t1 k e).2⟩, bl', tw', ?_, fun k e => ?_, o3 (by omega), fun j hj => o4 j hj (by omega), fun i q hq => ?_, o7 (by omega)⟩, z2, z3⟩, Wo.toBelow h.bel hwo (fun k e => by rcases e with e | e <;> exact (z.lt k (by omega)).1) z.le⟩
  · rw [List.length_append]
    exact Dk.row_heap hown fun k e => by
      cases e
      exact Below.heap_setCell w2 ⟨wb, 0, none⟩ _ g hgw
  · cases e
    rw [ht']
    simp only
    rw [if_pos trivial]
  · by_cases hi : i < ps.length
    · rw [List.getElem?_append_left hi] at hq
      exact ⟨o5 i q hq (by omega), o6 i q hq (by omega)⟩
    · have hi2 : i = ps.length := by
        have := (List.getElem?_eq_some_iff.1 hq).1
        simp at this
        omega
      subst hi2
      rw [List.getElem?_append_right (Nat.le_refl _), Nat.sub_self] at hq
      simp at hq
      subst hq
      refine ⟨hD'.more (fun k e => ?_) (fun k e => by rw [hs2]; exact (t1 k (by rw [e]; omega)).2), hR'.more (fun k e => ?_) (fun k e => by rw [hs2]; exact (t1 k (by rw [e]; omega)).2)⟩
      · rw [ht']
        simp only
        rw [if_neg (fun e1 => hog.1 (by rw [← e1]; exact e)), if_pos e]
      · rw [ht']
        simp only
        rw [if_neg (fun e1 => hog.2 (by rw [← e1]; exact e)), if_neg (h2 k e).2, if_pos e]
end Go.Proofs
