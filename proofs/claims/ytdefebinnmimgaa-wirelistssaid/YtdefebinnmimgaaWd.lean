/-
  ReadList of ints whose 'one' counts its calls and reads nothing.
-/
import Derived.Test.YtdefebinnmimgaaWc
namespace Go.Proofs
open Go.RowKit Go.Wi
/-- A reader, a row of numbers and a block that is kept, apart, above a floor. -/
structure Try.RN (w0 w : World) (x : Nat) (s : Rs) (v : Value) (li : List Int) (g : Nat) (O : Obj) : Prop where
  ex : ∃ oR, Try.Rd w oR x s ∧ (∀ k, oR k → w0.heap.size ≤ k) ∧ w.ownsRow w0.heap.size 3 1 v li.length (Wi.ics li) ∧ (∀ k, v.ownBlock = some k → ¬ oR k) ∧ w.heap[g]? = some O ∧ ¬ oR g ∧ v.ownBlock ≠ some g
  wo : Wo (fun k => k = g) w0 w
theorem Try.RN.le {w0 w : World} {x : Nat} {s : Rs} {v : Value} {li : List Int} {g : Nat} {O : Obj} (h : Try.RN w0 w x s v li g O) : w0.heap.size ≤ w.heap.size := h.wo.size
theorem Try.RN.kept {w0 w : World} {x : Nat} {s : Rs} {v : Value} {li : List Int} {g : Nat} {O : Obj} (h : Try.RN w0 w x s v li g O) : w.heap[g]? = some O := by
  obtain ⟨oR, h1, h2, _, _, h5, _⟩ := h.ex
  exact h5
theorem Try.RN.row {w0 w : World} {x : Nat} {s : Rs} {v : Value} {li : List Int} {g : Nat} {O : Obj} (h : Try.RN w0 w x s v li g O) : w.ownsRow w0.heap.size 3 1 v li.length (Wi.ics li) := by
  obtain ⟨oR, h1, h2, h3, _⟩ := h.ex
  exact h3
theorem Try.RN.of {w0 w : World} {x : Nat} {s : Rs} {g : Nat} {O : Obj} (h : Try.RB w0.heap.size w0 w x s) (hg : w0.heap[g]? = some O) : Try.RN w0 w x s (.slice .none 0 0) [] g O := by
  obtain ⟨oR, h1, h2⟩ := h.ex
  have hgl := block_lt hg
  exact ⟨⟨oR, h1, h2, World.ownsRow_nil _ _ _ _, (fun k e => by cases e), (h.bel.block g hgl).trans hg, (fun e => by have := h2 _ e; omega), (fun e => by cases e)⟩, Wo.ofBelow h.bel⟩
theorem Try.RN.below {w0 w w' : World} {x : Nat} {s : Rs} {v : Value} {li : List Int} {g : Nat} {O : Obj} (h : Try.RN w0 w x s v li g O) (hb : Below w.heap.size w w') : Try.RN w0 w' x s v li g O := by
  obtain ⟨oR, h1, h2, h3, h4, h5, h6, h7⟩ := h.ex
  exact ⟨⟨oR, h1.below hb, h2, Wi.row_heap h3 fun k e => hb.block k (h3.lt k e).2, h4, (hb.block g (block_lt h5)).trans h5, h6, h7⟩, h.wo.below hb h.wo.size⟩
theorem Try.RN.drewN {w0 w : World} {x : Nat} {s : Rs} {v : Value} {li : List Int} {g : Nat} {O : Obj} (h : Try.RN w0 w x s v li g O) (n : Nat) : Try.RN w0 (w.drewN n) x s v li g O := h.below (belowN (Below.refl _ _) n)
theorem Try.RN.chg {w0 w w' : World} {x : Nat} {s s' : Rs} {v : Value} {li : List Int} {g : Nat} {O : Obj} {oR : Nat → Prop} (hb : Wo (fun k => k = g) w0 w) (h1 : Try.Rd w oR x s) (h2 : ∀ k, oR k → w0.heap.size ≤ k) (h3 : w.ownsRow w0.heap.size 3 1 v li.length (Wi.ics li)) (h4 : ∀ k, v.ownBlock = some k → ¬ oR k) (h5 : w.heap[g]? = some O) (h6 : ¬ oR g) (h7 : v.ownBlock ≠ some g) (hc : Try.RChg oR w w' x s') : Try.RN w0 w' x s' v li g O := by
  obtain ⟨oR', g1, g2⟩ := hc.ex
  have hBx := h2 x h1.ox
  have hwz := hb.size
  have hxl := h1.lt x h1.ox
  have hgl := block_lt h5
  refine ⟨⟨oR', g1, fun k e => ?_, Wi.row_heap h3 fun k e => hc.wo.block k (h3.lt k e).2 (fun e1 => h4 k e (by rw [e1]; exact h1.ox)), fun k e e2 => ?_, (hc.wo.block g hgl (fun e1 => h6 (by rw [e1]; exact h1.ox))).trans h5, fun e => ?_, h7⟩, hb.step (fun k e => .inr (by omega)) hc.wo⟩
  · rcases g2 k e with e1 | e1
    · exact h2 k e1
    · omega
  · rcases g2 k e2 with e1 | e1
    · exact h4 k e e1
    · have := (h3.lt k e).2; omega
  · rcases g2 g e with e1 | e1
    · exact h6 e1
    · omega
theorem Try.RN.nofault {w0 w : World} {x : Nat} {s : Rs} {v : Value} {li : List Int} {g : Nat} {O : Obj} (h : Try.RN w0 w x s v li g O) (hf : s.f = .none) : w.cell? ⟨x, 2, .none⟩ = some (.pointer .none) := by
  obtain ⟨oR, h1, _⟩ := h.ex
  obtain ⟨V, fv, hx, -, -, -, hfv⟩ := h1.ex
  rcases hfv with ⟨_, rfl⟩ | ⟨b, y, hf', -⟩
  · exact cell_of_row w x 2 _ _ _ hx
  · rw [hf] at hf'; cases hf'
theorem Try.RN.wider {w0 w : World} {x : Nat} {s : Rs} {v : Value} {li : List Int} {g : Nat} {O : Obj} (h : Try.RN w0 w x s v li g O) (room : Nat) (hr : room ≤ 1000000000000) (hl : li.length ≤ 1000000000000) :
    Calls Try.prog 56 #[v, .int .i64 room] w fun e w' => ∃ ad cap, e = .returned (.slice ad li.length cap) ∧ Try.RN w0 w' x s (.slice ad li.length cap) li g O := by
  obtain ⟨oR, h1, h2, h3, h4, h5, h6, h7⟩ := h.ex
  have hgl := block_lt h5
  have hle := h.le
  refine (Try.widerN_any h3 room hr hl).mono fun _ _ ⟨ad, cap, e1, e2, e3⟩ => ⟨ad, cap, e1, ⟨oR, h1.below e3, h2, ?_, fun k e e4 => by have := (e2.lt k e).1; have := h1.lt k e4; omega, (e3.block g hgl).trans h5, h6, fun e => by have := (e2.lt g e).1; omega⟩, h.wo.below e3 h.wo.size⟩
  exact ⟨e2.1, e2.2.elim Or.inl fun ⟨g', c, cur, q1, q2, q3⟩ => Or.inr ⟨g', c, cur, q1, by omega, q3⟩⟩
/-- 'append' of one number. -/
theorem Try.appIN {ops : Array Oper} {rest : List Oper} {o : Oper} {a : Act} {Q : Exit → Act → World → Prop} (hgd : o.guard = .none) (p y : Operand)
    (ho : o.op = .call { callee := .builtin .append, args := #[p, y], argTypes := #[57, 57] })
    {w0 w : World} {x : Nat} {s : Rs} {v : Value} {li : List Int} {gk : Nat} {O : Obj} (h : Try.RN w0 w x s v li gk O)
    (hs : a.eval p = v) (hy : a.eval y = .slice (some ⟨w.heap.size, 0, .none⟩) 1 1) (n : Int) (hlen : (li.length + 1) * 8 ≤ 140737488355328)
    (hK : ∀ ad cap w1, Try.RN w0 w1 x s (.slice ad (li.length + 1) cap) (li ++ [n]) gk O → wpList Try.prog ops Q rest (a.put o.dst (.slice ad (li.length + 1) cap)) w1) : wpList Try.prog ops Q (o :: rest) a (w.alloc (.cells #[.int .i64 n] 3)) := by
  obtain ⟨oR, h1, h2, h3, h4, h5, h6, h7⟩ := h.ex
  have hgl := block_lt h5
  have hle := h.le
  obtain ⟨i0, hi0, hz0, hz1, hz2⟩ := info_parts Try.info_int
  have hnb : (w.alloc (.cells #[.int .i64 n] 3)).heap[w.heap.size]? = some (.cells #[.int .i64 n] 3 (0, 0)) := heap_alloc_new w _
  have hb : Below w.heap.size w (w.alloc (.cells #[.int .i64 n] 3)) := (Below.refl w.heap.size w).alloc (Nat.le_refl _) _
  have hrow1 := Wi.row_heap h3 fun k e => hb.block k (h3.lt k e).2
  refine wpList_append_lies _ hgd p y 57 ho w0.heap.size 3 i0 _ 1 8 Try.underlying57 hi0 hz0 hz1 hz2 rfl (by omega) v li.length (Wi.ics li) hs hrow1 ⟨w.heap.size, 0, .none⟩ 1 1 [.int .i64 n] hy rfl (World.news_of_block hnb) (by simp [Value.oneCell']) (by omega) (by unfold maxLen; omega) (by omega) (Nat.le_trans hle hb.size) _ rfl ?_
  intro g cap w' hown hg hat hlt
  have hsz : (w.alloc (.cells #[.int .i64 n] 3)).heap.size = w.heap.size + 1 := by simp
  have e : Wi.ics li ++ [Value.int .i64 n] = Wi.ics (li ++ [n]) := by simp [Wi.ics]
  rw [e] at hown
  have hl : (li ++ [n]).length = li.length + 1 := by simp
  refine hK (some ⟨g, 0, .none⟩) cap w' ⟨⟨oR, (h1.below hb).keep (fun k e1 => hg.block k (by have := h1.lt k e1; omega) (fun e2 => h4 k e2.symm e1)) hg.size, h2, by rw [hl]; exact hown, fun k e1 e2 => ?_, (hg.block gk (by omega) (fun e => h7 e.symm)).trans ((hb.block gk hgl).trans h5), h6, fun e1 => ?_⟩, ?_⟩
  · cases e1
    rcases hat with e3 | e3
    · exact h4 _ e3 e2
    · have := h1.lt _ e2
      have e4 : g = w.heap.size + 1 := by rw [e3, hsz]
      simp only at this
      omega
  · cases e1
    rcases hat with e3 | e3
    · exact h7 e3
    · have e4 : g = w.heap.size + 1 := by rw [← hsz]; exact e3
      simp only at hgl
      omega
  · exact (h.wo.below hb h.wo.size).grown hg fun k e1 => .inr (h3.lt k e1).1
/-- A counter. -/
def Try.cn (n : Int) : Obj := .cells #[.int .i64 n] 3 (0, 0)
set_option maxHeartbeats 1000000 in
theorem Try.RN.one4 {w0 w : World} {x : Nat} {s : Rs} {v : Value} {li : List Int} {g : Nat} {n : Int} (h : Try.RN w0 w x s v li g (Try.cn n)) (m : Int) (hn : wrap64 (n + 1) = m) :
    Calls Try.prog 35 #[.pointer (some ⟨x, 0, .none⟩), .pointer (some ⟨g, 0, .none⟩)] w fun e w' => e = .returned (.int .i64 m) ∧ Try.RN w0 w' x s v li g (Try.cn m) := by
  have hc : w.heap[g]? = some (.cells #[.int .i64 n] 3 (0, 0)) := h.kept
  have c0 : w.cell? ⟨g, 0, .none⟩ = some (.int .i64 n) := cell_of_row w g 0 _ _ _ hc
  have f0 := frozen_of_row w g 0 _ _ hc
  have hc1 := heap_setCell_same w g 0 #[.int .i64 n] 3 (.int .i64 m) hc
  have c1 : (w.setCell ⟨g, 0, .none⟩ (.int .i64 m)).cell? ⟨g, 0, .none⟩ = some (.int .i64 m) := cell_of_row _ g 0 _ _ _ hc1
  have hs1 : (w.setCell ⟨g, 0, none⟩ (.int .i64 m)).heap.size = w.heap.size := by simp
  have HR : Hid (Try.RN w0 (w.setCell ⟨g, 0, none⟩ (.int .i64 m)) x s v li g (Try.cn m)) := by
    obtain ⟨oR, h1, h2, h3, h4, h5, h6, h7⟩ := h.ex
    refine ⟨⟨oR, h1.keep (fun k e => heap_setCell_other _ _ _ _ (fun e1 => h6 (by rw [← show k = g from e1]; exact e))) (by rw [hs1]; exact Nat.le_refl _), h2, Wi.row_heap h3 fun k e => heap_setCell_other _ _ _ _ (fun e1 => h7 (by rw [← show k = g from e1]; exact e)), h4, hc1, h6, h7⟩, ?_⟩
    exact h.wo.setCell g 0 _ (.inl rfl)
  clear h hc hc1 hs1
  go_enter Try.func35, Try.ntmps35
  go_wp2
  go_ret
  exact ⟨rfl, HR.out⟩
end Go.Proofs
