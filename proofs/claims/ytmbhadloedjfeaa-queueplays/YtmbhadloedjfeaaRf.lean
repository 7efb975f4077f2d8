/-
  A pair: the program's queue and the document's.
-/
import Derived.Test.YtmbhadloedjfeaaRe
namespace Go.Proofs
open Go.RowKit Go.Wi Go.Qu
structure Try.Pp (w : World) (own : Nat → Prop) (p a b : Nat) (o1 o2 : Nat → Prop) (s : Qs ByteArray) (m : Nat) : Prop where
  bl : w.heap[p]? = some (.cells #[.pointer (some ⟨a, 0, none⟩), .pointer (some ⟨b, 0, none⟩)] 47 (0, 0))
  qa : Try.QuS w o1 a s
  rb : Try.Rq w o2 b s m
  dj : ∀ k, o1 k → ¬ o2 k
  n1 : ¬ o1 p
  n2 : ¬ o2 p
  ow : ∀ k, own k ↔ k = p ∨ o1 k ∨ o2 k
structure Try.Pr (w : World) (own : Nat → Prop) (p : Nat) (s : Qs ByteArray) (m : Nat) : Prop where
  ex : ∃ a b o1 o2, Try.Pp w own p a b o1 o2 s m
theorem Try.Pr.lt {w : World} {own : Nat → Prop} {p m : Nat} {s : Qs ByteArray} (h : Try.Pr w own p s m) : ∀ k, own k → k < w.heap.size := fun k e => by
  obtain ⟨a, b, o1, o2, hp⟩ := h.ex
  rcases (hp.ow k).1 e with rfl | e | e
  · exact block_lt hp.bl
  · exact hp.qa.lt k e
  · exact hp.rb.lt k e
theorem Try.Pr.keep {w w' : World} {own : Nat → Prop} {p m : Nat} {s : Qs ByteArray} (h : Try.Pr w own p s m) (hk : ∀ k, own k → w'.heap[k]? = w.heap[k]?) (hs : w.heap.size ≤ w'.heap.size) : Try.Pr w' own p s m := by
  obtain ⟨a, b, o1, o2, hp⟩ := h.ex
  exact ⟨a, b, o1, o2, (hk p ((hp.ow p).2 (.inl rfl))).trans hp.bl, hp.qa.keep (fun k e => hk k ((hp.ow k).2 (.inr (.inl e)))) hs, hp.rb.keep (fun k e => hk k ((hp.ow k).2 (.inr (.inr e)))) hs, hp.dj, hp.n1, hp.n2, hp.ow⟩
theorem Try.Pr.mono {w : World} {own : Nat → Prop} {p m m' : Nat} {s : Qs ByteArray} (h : Try.Pr w own p s m) (hm : m ≤ m') : Try.Pr w own p s m' := by
  obtain ⟨a, b, o1, o2, hp⟩ := h.ex
  exact ⟨a, b, o1, o2, hp.bl, hp.qa, hp.rb.mono hm, hp.dj, hp.n1, hp.n2, hp.ow⟩
/-- What a step leaves. -/
structure Try.PC (own : Nat → Prop) (w w' : World) (p m : Nat) : Prop where
  ex : ∃ own' s, Try.Pr w' own' p s m ∧ ∀ k, own' k → own k ∨ w.heap.size ≤ k
  wo : Wo own w w'
theorem Try.PC.ofBelow {w w' : World} {own : Nat → Prop} {p m : Nat} {s : Qs ByteArray} (h : Try.Pr w own p s m) (g : Below w.heap.size w w') : Try.PC own w w' p m :=
  ⟨⟨own, s, h.keep (fun k e => g.block k (h.lt k e)) g.size, fun _ e => .inl e⟩, Wo.ofBelow g⟩
theorem Try.Pp.first {w W w1 : World} {own o1 o2 : Nat → Prop} {p a b m : Nat} {s s' : Qs ByteArray} (h : Try.Pp w own p a b o1 o2 s m) (hW : Below w.heap.size w W) (hQ : Try.QCS o1 W w1 a s') :
    w1.cell? ⟨p, 1, none⟩ = some (.pointer (some ⟨b, 0, none⟩)) ∧ Try.Rq w1 o2 b s m ∧ (∀ k, w.heap.size ≤ k → k < W.heap.size → ∀ j, w1.cell? ⟨k, j, none⟩ = W.cell? ⟨k, j, none⟩) ∧ w.heap.size ≤ w1.heap.size := by
  have hpl := block_lt h.bl
  have hs := hQ.wo.size
  have hs0 := hW.size
  have hbp : w1.heap[p]? = w.heap[p]? := (hQ.wo.block p (by omega) h.n1).trans (hW.block p hpl)
  refine ⟨?_, ?_, fun k h1 h2 j => World.cell?_of_block (a := ⟨k, j, none⟩) (hQ.wo.block k h2 (fun e => by have := h.qa.lt k e; omega)), by omega⟩
  · rw [cell_of_row _ _ _ _ _ _ (hbp.trans h.bl)]; rfl
  · refine h.rb.keep (fun k e => ?_) (by omega)
    have hk := h.rb.lt k e
    exact (hQ.wo.block k (by omega) (fun e1 => h.dj k e1 e)).trans (hW.block k hk)
theorem Try.Pp.second {w W w1 W1 w2 : World} {own o1 o2 : Nat → Prop} {p a b m m' : Nat} {s s' : Qs ByteArray} (h : Try.Pp w own p a b o1 o2 s m) (hW : Below w.heap.size w W) (hQ : Try.QCS o1 W w1 a s') (hW1 : Below w1.heap.size w1 W1) (hR : Try.RC o2 W1 w2 b s' m') : Try.PC own w w2 p m' := by
  have hpl := block_lt h.bl
  have hs := hQ.wo.size
  have hs0 := hW.size
  have hs1 := hW1.size
  have hs2 := hR.wo.size
  obtain ⟨o1', hq, ho1⟩ := hQ.ex
  obtain ⟨o2', hr, ho2⟩ := hR.ex
  have hno : ∀ k, o1' k → ¬ o2 k := fun k e e2 => by
    have := h.rb.lt k e2
    rcases ho1 k e with e1 | e1
    · exact h.dj k e1 e2
    · omega
  refine ⟨⟨fun k => k = p ∨ o1' k ∨ o2' k, s', ⟨a, b, o1', o2', ?_, ?_, hr, ?_, ?_, ?_, fun k => Iff.rfl⟩, ?_⟩, ?_⟩
  · rw [hR.wo.block p (by omega) h.n2, hW1.block p (by omega), hQ.wo.block p (by omega) h.n1, hW.block p hpl]; exact h.bl
  · refine hq.keep (fun k e => ?_) (by omega)
    have := hq.lt k e
    rw [hR.wo.block k (by omega) (hno k e), hW1.block k this]
  · intro k e1 e2
    have := hq.lt k e1
    rcases ho2 k e2 with e3 | e3
    · exact hno k e1 e3
    · omega
  · intro e
    rcases ho1 p e with e1 | e1
    · exact h.n1 e1
    · omega
  · intro e
    rcases ho2 p e with e1 | e1
    · exact h.n2 e1
    · omega
  · intro k e
    rcases e with e | e | e
    · exact .inl ((h.ow k).2 (.inl e))
    · rcases ho1 k e with e1 | e1
      · exact .inl ((h.ow k).2 (.inr (.inl e1)))
      · exact .inr (by omega)
    · rcases ho2 k e with e1 | e1
      · exact .inl ((h.ow k).2 (.inr (.inr e1)))
      · exact .inr (by omega)
  · refine ⟨((hR.wo.os.trans hW1.os).trans hQ.wo.os).trans hW.os, ((hR.wo.tape.trans hW1.tape).trans hQ.wo.tape).trans hW.tape, ((hR.wo.output.trans hW1.output).trans hQ.wo.output).trans hW.output, by omega, fun k hk hb => ?_⟩
    rw [hR.wo.block k (by omega) (fun e => hb ((h.ow k).2 (.inr (.inr e)))), hW1.block k (by omega), hQ.wo.block k (by omega) (fun e => hb ((h.ow k).2 (.inr (.inl e)))), hW.block k hk]
set_option maxHeartbeats 2000000 in
theorem Try.madeYes (size base most : Int) (h1 : 1 ≤ size) (h2 : size ≤ 1000) (h3 : 1 ≤ base) (h4 : base ≤ most) (h5 : most ≤ 1000000000) (w : World) :
    Calls Try.prog 5 #[.agg #[.int .i64 size, .int .i64 base, .int .i64 most]] w fun e w' => ∃ p, e = .returned (.tuple #[.pointer (some ⟨p, 0, none⟩), .bool true]) ∧ (∃ own s, Try.Pr w' own p s 0 ∧ ∀ k, own k → w.heap.size ≤ k) ∧ Below w.heap.size w w' := by
  have hn := fun W => Try.newS size base most h1 h2 h3 h4 h5 W
  have hm := fun W => Try.rnew size base most h1 h2 h3 h4 h5 W
  go_enter Try.func5, Try.ntmps5
  go_wp2_with (first
    | (go_at_call 7; refine (hn _).mono ?_; clear hn; rintro z w1 ⟨a, rfl, hQ1, hb1⟩; have HB1 : Hid _ := hb1; have HQ1 : Hid _ := hQ1; have k0 := hb1.cell (p := ⟨w.heap.size, 0, none⟩) (by simp); have k1 := hb1.cell (p := ⟨w.heap.size, 1, none⟩) (by simp); have k2 := hb1.cell (p := ⟨w.heap.size, 2, none⟩) (by simp); simp at k0 k1 k2; clear hb1 hQ1)
    | (go_at_call 12; refine (hm _).mono ?_; clear hm; rintro z w2 ⟨b, rfl, hR2, hb2⟩; have HB2 : Hid _ := hb2; have HR2 : Hid _ := hR2; clear hb2 hR2)
    | fail)
  go_ret2
  have hb1 := HB1.out
  have hb2 := HB2.out
  have hq := HQ1.out
  have hr := HR2.out
  have z0 : (w.alloc (.cells #[.int .i64 size, .int .i64 base, .int .i64 most] 23)).heap.size = w.heap.size + 1 := by simp
  have z1 := hb1.size
  have z2 := hb2.size
  rw [z0] at z1
  have hB : Below w.heap.size w w2 := (((Below.refl w.heap.size w).alloc (Nat.le_refl _) (.cells #[.int .i64 size, .int .i64 base, .int .i64 most] 23)).trans (hb1.mono (by rw [z0]; omega))).trans (hb2.mono (by omega))
  refine ⟨w2.heap.size, rfl, ⟨fun k => k = w2.heap.size ∨ (w.heap.size + 1 ≤ k ∧ k < w1.heap.size) ∨ (w1.heap.size ≤ k ∧ k < w2.heap.size), _, ⟨a, b, fun k => w.heap.size + 1 ≤ k ∧ k < w1.heap.size, fun k => w1.heap.size ≤ k ∧ k < w2.heap.size, heap_alloc_new w2 _, ?_, hr.below ((Below.refl _ w2).alloc (Nat.le_refl _) _), fun k e1 e2 => by omega, fun e => by omega, fun e => by omega, fun k => Iff.rfl⟩, fun k e => by omega⟩, hB.alloc (by omega) _⟩
  rw [z0] at hq
  exact (hq.below hb2).below ((Below.refl _ w2).alloc (Nat.le_refl _) _)
set_option maxHeartbeats 2000000 in
theorem Try.madeNo (size base most : Int) (h : ¬ (1 ≤ size ∧ size ≤ 1000 ∧ 1 ≤ base ∧ base ≤ 1000000000 ∧ base ≤ most ∧ most ≤ 1000000000)) (w : World) :
    Calls Try.prog 5 #[.agg #[.int .i64 size, .int .i64 base, .int .i64 most]] w fun e w' => e = .returned (.tuple #[.pointer none, .bool true]) ∧ Below w.heap.size w w' := by
  have hn := fun W => Try.newNoS size base most h W
  have hm := fun W => Try.rnewNo size base most h W
  clear h
  go_enter Try.func5, Try.ntmps5
  go_wp2_with (first
    | (go_at_call 7; refine (hn _).mono ?_; clear hn; rintro z w1 ⟨rfl, hw1⟩; rw [hw1]; clear hw1)
    | (go_at_call 12; refine (hm _).mono ?_; clear hm; rintro z w2 ⟨rfl, hw2⟩; rw [hw2]; clear hw2)
    | fail)
  go_ret2
  exact ⟨rfl, (Below.refl w.heap.size w).alloc (Nat.le_refl _) _⟩
end Go.Proofs
