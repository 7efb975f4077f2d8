/-
  Three disks, just formatted, and opened one behind the other.
-/
import Derived.Test.YtkoojpaanpmgeaaKs
namespace Go.Proofs
open Go.RowKit Go.Dk
/-- Three disks in blocks of their own: between B1, B2, B3 and the end E. -/
structure Try.F3 (w0 w : World) (B1 B2 B3 E : Nat) (x1 n1 x2 n2 x3 n3 : Nat) : Prop where
  ex : ∃ own1 s1 own2 s2 own3 s3, (Try.Dsk w own1 x1 s1 ∧ Holds s1 1 0 [] [] ∧ s1.Can 900000 ∧ s1.n = n1 ∧ ∀ k, own1 k → B1 ≤ k ∧ k < B2) ∧ (Try.Dsk w own2 x2 s2 ∧ Holds s2 1 0 [] [] ∧ s2.Can 900000 ∧ s2.n = n2 ∧ ∀ k, own2 k → B2 ≤ k ∧ k < B3) ∧ (Try.Dsk w own3 x3 s3 ∧ Holds s3 1 0 [] [] ∧ s3.Can 900000 ∧ s3.n = n3 ∧ ∀ k, own3 k → B3 ≤ k ∧ k < E)
  le : B1 ≤ B2 ∧ B2 ≤ B3 ∧ B3 ≤ E ∧ E ≤ w.heap.size
  bel : Below B1 w0 w
theorem Try.F3.of {w w1 w2 w3 : World} {x1 n1 x2 n2 x3 n3 : Nat} (h1 : Try.Fresh w w1 x1 n1) (h2 : Try.Fresh w1 w2 x2 n2) (h3 : Try.Fresh w2 w3 x3 n3) : Try.F3 w w3 w.heap.size w1.heap.size w2.heap.size w3.heap.size x1 n1 x2 n2 x3 n3 := by
  obtain ⟨o1, s1, a1, a2, a3, a4, -, a5⟩ := h1.ex
  obtain ⟨o2, s2, b1, b2, b3, b4, -, b5⟩ := h2.ex
  obtain ⟨o3, s3, c1, c2, c3, c4, -, c5⟩ := h3.ex
  have z1 := h1.bel.size
  have z2 := h2.bel.size
  have z3 := h3.bel.size
  have hb23 : Below w1.heap.size w1 w3 := h2.bel.trans (h3.bel.mono z2)
  exact ⟨⟨o1, s1, o2, s2, o3, s3, ⟨a1.below hb23, a2, a3, a4, fun k e => ⟨a5 k e, a1.lt k e⟩⟩, ⟨b1.below h3.bel, b2, b3, b4, fun k e => ⟨b5 k e, b1.lt k e⟩⟩, ⟨c1, c2, c3, c4, fun k e => ⟨c5 k e, c1.lt k e⟩⟩⟩, ⟨z1, z2, z3, Nat.le_refl _⟩, h1.bel.trans (hb23.mono z1)⟩
/-- Whose a block is. -/
def Dk.tg (B2 B3 E ya yb yc k : Nat) : Nat := if k < B2 then 1 else if k < B3 then 2 else if k < E then 3 else if k = ya then 1 else if k = yb then 2 else if k = yc then 3 else 0
theorem Dk.tg0 {B2 B3 E ya yb yc k : Nat} (h : B2 ≤ B3 ∧ B3 ≤ E) (h1 : E ≤ k) (h2 : k ≠ ya ∧ k ≠ yb ∧ k ≠ yc) : Dk.tg B2 B3 E ya yb yc k = 0 := by
  unfold Dk.tg
  rw [if_neg (by omega), if_neg (by omega), if_neg (by omega), if_neg (by omega), if_neg (by omega), if_neg (by omega)]
theorem Try.L3.init {w0 w wa wb wc : World} {B1 B2 B3 E x1 n1 x2 n2 x3 n3 ya yb yc : Nat} {own1 own2 own3 : Nat → Prop} {s1 s2 s3 : DS} {ra rb rc : Value} (hle : B1 ≤ B2 ∧ B2 ≤ B3 ∧ B3 ≤ E ∧ E ≤ w.heap.size) (hbel : Below B1 w0 w)
    (ta : Try.Told w wa own1 ya x1 s1 900000 1 0 [] [] (.agg #[.string ⟨#[]⟩, ra])) (tb : Try.Told (wa.alloc (.cells #[.string ⟨#[]⟩, ra] 28)) wb own2 yb x2 s2 900000 1 0 [] [] (.agg #[.string ⟨#[]⟩, rb])) (tc : Try.Told (wb.alloc (.cells #[.string ⟨#[]⟩, rb] 28)) wc own3 yc x3 s3 900000 1 0 [] [] (.agg #[.string ⟨#[]⟩, rc]))
    (m1 : s1.n = n1) (m2 : s2.n = n2) (m3 : s3.n = n3) (l1 : ∀ k, own1 k → B1 ≤ k ∧ k < B2) (l2 : ∀ k, own2 k → B2 ≤ k ∧ k < B3) (l3 : ∀ k, own3 k → B3 ≤ k ∧ k < E) :
    Try.L3 B1 w0 (wc.alloc (.cells #[.string ⟨#[]⟩, rc] 28)) ⟨n1, ya, x1, 900000, 1, 0, [], []⟩ ⟨n2, yb, x2, 900000, 1, 0, [], []⟩ ⟨n3, yc, x3, 900000, 1, 0, [], []⟩ [(wa.heap.size, [], []), (wb.heap.size, [], []), (wc.heap.size, [], [])] [] := by
  have a1 := (Below.refl wa.heap.size wa).alloc (Nat.le_refl _) (.cells #[.string ⟨#[]⟩, ra] 28)
  have a2 := (Below.refl wb.heap.size wb).alloc (Nat.le_refl _) (.cells #[.string ⟨#[]⟩, rb] 28)
  have a3 := (Below.refl wc.heap.size wc).alloc (Nat.le_refl _) (.cells #[.string ⟨#[]⟩, rc] 28)
  have za := ta.bel.size
  have zb := tb.bel.size
  have zc := tc.bel.size
  have fa := ta.y0
  have fb := tb.y0
  have fc := tc.y0
  simp only [World.size_alloc] at zb zc fb fc
  have ga := Dk.block_lt ta.jd.jn
  have gb := Dk.block_lt tb.jd.jn
  have gc := Dk.block_lt tc.jd.jn
  have hbb : Below wb.heap.size wb (wc.alloc (.cells #[.string ⟨#[]⟩, rc] 28)) := a2.trans ((tc.bel.mono (by simp)).trans (a3.mono (by omega)))
  have hba : Below wa.heap.size wa (wc.alloc (.cells #[.string ⟨#[]⟩, rc] 28)) := a1.trans ((tb.bel.mono (by simp)).trans (hbb.mono (by omega)))
  refine ⟨⟨Dk.tg B2 B3 E ya yb yc, ⟨own1, s1, ta.jd.below hba, m1, fun k e => ?_, ?_, ?_⟩, ⟨own2, s2, tb.jd.below hbb, m2, fun k e => ?_, ?_, ?_⟩, ⟨own3, s3, tc.jd.below a3, m3, fun k e => ?_, ?_, ?_⟩, fun b e => ?_, fun v e => absurd e (by simp)⟩, hbel.trans ((ta.bel.mono (by omega)).trans (hba.mono (by omega)))⟩
  · have := l1 k e
    exact ⟨by unfold Dk.tg; rw [if_pos (by omega)], by omega⟩
  · show Dk.tg B2 B3 E ya yb yc ya = 1
    unfold Dk.tg
    rw [if_neg (by omega), if_neg (by omega), if_neg (by omega), if_pos rfl]
  · show B1 ≤ ya; omega
  · have := l2 k e
    exact ⟨by unfold Dk.tg; rw [if_neg (by omega), if_pos (by omega)], by omega⟩
  · show Dk.tg B2 B3 E ya yb yc yb = 2
    unfold Dk.tg
    rw [if_neg (by omega), if_neg (by omega), if_neg (by omega), if_neg (by omega), if_pos rfl]
  · show B1 ≤ yb; omega
  · have := l3 k e
    exact ⟨by unfold Dk.tg; rw [if_neg (by omega), if_neg (by omega), if_pos (by omega)], by omega⟩
  · show Dk.tg B2 B3 E ya yb yc yc = 3
    unfold Dk.tg
    rw [if_neg (by omega), if_neg (by omega), if_neg (by omega), if_neg (by omega), if_neg (by omega), if_pos rfl]
  · show B1 ≤ yc; omega
  · simp only [List.mem_cons, List.not_mem_nil, or_false] at e
    rcases e with rfl | rfl | rfl
    · obtain ⟨rv, e1, k2, k3⟩ := ta.st
      cases e1
      have hm := heap_alloc_new wa (.cells #[.string ⟨#[]⟩, ra] 28)
      refine ⟨ra, ?_, ⟨Dk.tg0 (by omega) (by show E ≤ wa.heap.size; omega) (by show wa.heap.size ≠ ya ∧ wa.heap.size ≠ yb ∧ wa.heap.size ≠ yc; omega), by show B1 ≤ wa.heap.size; omega⟩, Dk.row_heap k2 fun k e => hba.block k (k2.lt k e).2, fun k e => ?_⟩
      · exact (((tb.bel.mono (by simp)).trans (hbb.mono (by omega))).block _ (Nat.lt_succ_self _)).trans hm
      · have h1 := k3 k e
        have h2 := (k2.lt k e).2
        exact ⟨Dk.tg0 (by omega) (by omega) (by omega), by omega⟩
    · obtain ⟨rv, e1, k2, k3⟩ := tb.st
      cases e1
      have hm := heap_alloc_new wb (.cells #[.string ⟨#[]⟩, rb] 28)
      refine ⟨rb, ?_, ⟨Dk.tg0 (by omega) (by show E ≤ wb.heap.size; omega) (by show wb.heap.size ≠ ya ∧ wb.heap.size ≠ yb ∧ wb.heap.size ≠ yc; omega), by show B1 ≤ wb.heap.size; omega⟩, Dk.row_heap k2 fun k e => hbb.block k (k2.lt k e).2, fun k e => ?_⟩
      · exact (((tc.bel.mono (by simp)).trans (a3.mono (by omega))).block _ (Nat.lt_succ_self _)).trans hm
      · have h1 := k3 k e
        have h2 := (k2.lt k e).2
        simp only [World.size_alloc] at h1
        exact ⟨Dk.tg0 (by omega) (by omega) (by omega), by omega⟩
    · obtain ⟨rv, e1, k2, k3⟩ := tc.st
      cases e1
      refine ⟨rc, heap_alloc_new wc _, ⟨Dk.tg0 (by omega) (by show E ≤ wc.heap.size; omega) (by show wc.heap.size ≠ ya ∧ wc.heap.size ≠ yb ∧ wc.heap.size ≠ yc; omega), by show B1 ≤ wc.heap.size; omega⟩, Dk.row_heap k2 fun k e => a3.block k (k2.lt k e).2, fun k e => ?_⟩
      have h1 := k3 k e
      have h2 := (k2.lt k e).2
      simp only [World.size_alloc] at h1
      exact ⟨Dk.tg0 (by omega) (by omega) (by omega), by omega⟩
end Go.Proofs
