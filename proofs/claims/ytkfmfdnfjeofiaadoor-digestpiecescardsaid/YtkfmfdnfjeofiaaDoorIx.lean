/-
  Two sums in the making, and the bytes that were added to each.
-/
import Derived.Test.YtkfmfdnfjeofiaaDoorIw
namespace Go.Proofs
open Go.RowKit Go.Wi Go.Dg
/-- One sum in the making. -/
structure Tryd.Hs (w : World) (g : Nat) (l : List UInt8) : Prop where
  ex : ∃ s R, Tryd.Hsh w g s R l.length ∧ Dg.Sofar s R l
theorem Tryd.Hs.lt {w : World} {g : Nat} {l : List UInt8} (h : Tryd.Hs w g l) : g < w.heap.size := by
  obtain ⟨s, R, h1, _⟩ := h.ex
  exact h1.lt
theorem Tryd.Hs.keep {w w' : World} {g : Nat} {l : List UInt8} (h : Tryd.Hs w g l) (e : w'.heap[g]? = w.heap[g]?) : Tryd.Hs w' g l := by
  obtain ⟨s, R, h1, h2⟩ := h.ex
  exact ⟨s, R, h1.keep e, h2⟩
/-- The two. -/
structure Tryd.Pc (w0 : World) (gh gs ga gb : Nat) (la lb : List UInt8) (ta tb : ByteArray) (w : World) : Prop where
  b : Below w0.heap.size w0 w
  t : Tryd.Tq w
  fl : 2 ≤ w0.heap.size
  h : w.heap[gh]? = some (.cells #[.pointer (some ⟨ga, 0, none⟩), .pointer (some ⟨gb, 0, none⟩)] 40 (0, 0))
  s : w.heap[gs]? = some (.cells #[.string ta, .string tb] 41 (0, 0))
  a : Tryd.Hs w ga la
  c : Tryd.Hs w gb lb
  n : gh ≠ gs ∧ ga ≠ gb ∧ ga ≠ gh ∧ ga ≠ gs ∧ gb ≠ gh ∧ gb ≠ gs
  f : w0.heap.size ≤ gh ∧ w0.heap.size ≤ gs ∧ w0.heap.size ≤ ga ∧ w0.heap.size ≤ gb
section
variable {w0 w w' : World} {gh gs ga gb : Nat} {la lb : List UInt8} {ta tb : ByteArray}
theorem Tryd.Pc.wo (p : Tryd.Pc w0 gh gs ga gb la lb ta tb w) {own : Nat → Prop} (hw : Wo own w w') (h0 : ∀ k, own k → w0.heap.size ≤ k ∧ k ≠ gh ∧ k ≠ gs ∧ k ≠ ga ∧ k ≠ gb) : Tryd.Pc w0 gh gs ga gb la lb ta tb w' := by
  have h1 := block_lt p.h
  have h2 := block_lt p.s
  have hb : Below w0.heap.size w0 w' := Wo.toBelow p.b hw (fun k e => (h0 k e).1) p.b.size
  exact ⟨hb, p.t.keep hw.size fun k hk => hw.block k (by have := p.t.sz; omega) (fun e => by have := (h0 k e).1; have := p.fl; omega), p.fl, (hw.block _ h1 fun e => (h0 _ e).2.1 rfl).trans p.h, (hw.block _ h2 fun e => (h0 _ e).2.2.1 rfl).trans p.s, p.a.keep (hw.block _ p.a.lt fun e => (h0 _ e).2.2.2.1 rfl), p.c.keep (hw.block _ p.c.lt fun e => (h0 _ e).2.2.2.2 rfl), p.n, p.f⟩
theorem Tryd.Pc.below (p : Tryd.Pc w0 gh gs ga gb la lb ta tb w) (g : Below w.heap.size w w') : Tryd.Pc w0 gh gs ga gb la lb ta tb w' := p.wo (own := fun _ => False) (Wo.ofBelow g) fun _ e => e.elim
theorem Tryd.Pc.drewN (p : Tryd.Pc w0 gh gs ga gb la lb ta tb w) (n : Nat) : Tryd.Pc w0 gh gs ga gb la lb ta tb (w.drewN n) := p.below (belowN (Below.refl _ _) n)
theorem Tryd.Pc.late (p : Tryd.Pc w0 gh gs ga gb la lb ta tb w) {g : Nat} (hg : w.heap.size ≤ g) : w0.heap.size ≤ g ∧ g ≠ gh ∧ g ≠ gs ∧ g ≠ ga ∧ g ≠ gb := by
  have h1 := block_lt p.h
  have h2 := block_lt p.s
  have h3 := p.a.lt
  have h4 := p.c.lt
  have h5 := p.b.size
  exact ⟨by omega, by omega, by omega, by omega, by omega⟩
theorem Tryd.Pc.addA (p : Tryd.Pc w0 gh gs ga gb la lb ta tb w) {la' : List UInt8} (hw : Wo (fun k => k = ga) w w') (ha : Tryd.Hs w' ga la') : Tryd.Pc w0 gh gs ga gb la' lb ta tb w' := by
  have hn := p.n
  exact ⟨Wo.toBelow p.b hw (fun k e => by rw [e]; exact p.f.2.2.1) p.b.size, p.t.keep hw.size fun k hk => hw.block k (by have := p.t.sz; omega) (by have := p.f.2.2.1; have := p.fl; omega), p.fl, (hw.block _ (block_lt p.h) (fun e => hn.2.2.1 e.symm)).trans p.h, (hw.block _ (block_lt p.s) (fun e => hn.2.2.2.1 e.symm)).trans p.s, ha, p.c.keep (hw.block _ p.c.lt (fun e => hn.2.1 e.symm)), p.n, p.f⟩
theorem Tryd.Pc.addB (p : Tryd.Pc w0 gh gs ga gb la lb ta tb w) {lb' : List UInt8} (hw : Wo (fun k => k = gb) w w') (hb : Tryd.Hs w' gb lb') : Tryd.Pc w0 gh gs ga gb la lb' ta tb w' := by
  have hn := p.n
  exact ⟨Wo.toBelow p.b hw (fun k e => by rw [e]; exact p.f.2.2.2) p.b.size, p.t.keep hw.size fun k hk => hw.block k (by have := p.t.sz; omega) (by have := p.f.2.2.2; have := p.fl; omega), p.fl, (hw.block _ (block_lt p.h) (fun e => hn.2.2.2.2.1 e.symm)).trans p.h, (hw.block _ (block_lt p.s) (fun e => hn.2.2.2.2.2 e.symm)).trans p.s, p.a.keep (hw.block _ p.a.lt (fun e => hn.2.1 e)), hb, p.n, p.f⟩
theorem Dg.set_arr {w : World} {g : Nat} {T : TypeId} {cs : Array Value} (h : w.heap[g]? = some (.cells cs T (0, 0))) (i : Nat) (v : Value) : (w.setCell ⟨g, i, none⟩ v).heap[g]? = some (.cells (cs.setIfInBounds i v) T (0, 0)) := by
  obtain ⟨l⟩ := cs
  exact (Dg.set_block h i v).trans (by simp)
theorem Tryd.Pc.setS (p : Tryd.Pc w0 gh gs ga gb la lb ta tb w) {i : Nat} {v : Value} {ta' tb' : ByteArray} (e : (#[.string ta, .string tb] : Array Value).setIfInBounds i v = #[.string ta', .string tb']) : Tryd.Pc w0 gh gs ga gb la lb ta' tb' (w.setCell ⟨gs, i, none⟩ v) := by
  have hn := p.n
  have hw : Wo (fun k => k = gs) w (w.setCell ⟨gs, i, none⟩ v) := (Wo.refl _ w).setCell gs i v (.inl rfl)
  have h1 := Dg.set_arr p.s i v
  rw [e] at h1
  exact ⟨Wo.toBelow p.b hw (fun k e => by rw [e]; exact p.f.2.1) p.b.size, p.t.keep hw.size fun k hk => hw.block k (by have := p.t.sz; omega) (by have := p.f.2.1; have := p.fl; omega), p.fl, (hw.block _ (block_lt p.h) hn.1).trans p.h, h1, p.a.keep (hw.block _ p.a.lt hn.2.2.2.1), p.c.keep (hw.block _ p.c.lt hn.2.2.2.2.2), p.n, p.f⟩
/-- One of them begins anew. -/
theorem Tryd.Pc.newA (p : Tryd.Pc w0 gh gs ga gb la lb ta tb w) {g : Nat} (hw : Below w.heap.size w w') (hg : w.heap.size ≤ g) (ha : Tryd.Hs w' g []) : Tryd.Pc w0 gh gs g gb [] lb ta tb (w'.setCell ⟨gh, 0, none⟩ (.pointer (some ⟨g, 0, none⟩))) := by
  have q := p.below hw
  have hn := q.n
  have hl := p.late hg
  have hw2 : Wo (fun k => k = gh) w' (w'.setCell ⟨gh, 0, none⟩ (.pointer (some ⟨g, 0, none⟩))) := (Wo.refl _ w').setCell gh 0 _ (.inl rfl)
  have h1 := Dg.set_arr q.h 0 (.pointer (some ⟨g, 0, none⟩))
  exact ⟨Wo.toBelow q.b hw2 (fun k e => by rw [e]; exact q.f.1) q.b.size, q.t.keep hw2.size fun k hk => hw2.block k (by have := q.t.sz; omega) (by have := q.f.1; have := q.fl; omega), q.fl, h1, (hw2.block _ (block_lt q.s) (fun e => hn.1 e.symm)).trans q.s, ha.keep (hw2.block _ ha.lt hl.2.1), q.c.keep (hw2.block _ q.c.lt hn.2.2.2.2.1), ⟨hn.1, hl.2.2.2.2, hl.2.1, hl.2.2.1, hn.2.2.2.2.1, hn.2.2.2.2.2⟩, ⟨q.f.1, q.f.2.1, hl.1, q.f.2.2.2⟩⟩
theorem Tryd.Pc.newB (p : Tryd.Pc w0 gh gs ga gb la lb ta tb w) {g : Nat} (hw : Below w.heap.size w w') (hg : w.heap.size ≤ g) (ha : Tryd.Hs w' g []) : Tryd.Pc w0 gh gs ga g la [] ta tb (w'.setCell ⟨gh, 1, none⟩ (.pointer (some ⟨g, 0, none⟩))) := by
  have q := p.below hw
  have hn := q.n
  have hl := p.late hg
  have hw2 : Wo (fun k => k = gh) w' (w'.setCell ⟨gh, 1, none⟩ (.pointer (some ⟨g, 0, none⟩))) := (Wo.refl _ w').setCell gh 1 _ (.inl rfl)
  have h1 := Dg.set_arr q.h 1 (.pointer (some ⟨g, 0, none⟩))
  exact ⟨Wo.toBelow q.b hw2 (fun k e => by rw [e]; exact q.f.1) q.b.size, q.t.keep hw2.size fun k hk => hw2.block k (by have := q.t.sz; omega) (by have := q.f.1; have := q.fl; omega), q.fl, h1, (hw2.block _ (block_lt q.s) (fun e => hn.1 e.symm)).trans q.s, q.a.keep (hw2.block _ q.a.lt hn.2.2.1), ha.keep (hw2.block _ ha.lt hl.2.1), ⟨hn.1, fun e => hl.2.2.2.1 e.symm, hn.2.2.1, hn.2.2.2.1, hl.2.1, hl.2.2.1⟩, ⟨q.f.1, q.f.2.1, q.f.2.2.1, hl.1⟩⟩
end
theorem Tryd.Hs.new {w : World} {g : Nat} {R : List UInt8} (h : Tryd.Hsh w g Dg.start R 0) : Tryd.Hs w g [] := ⟨Dg.start, R, h, Dg.sofar_nil R⟩
/-- Write and Sum, of one of them. -/
theorem Tryd.Hs.write {w : World} {g : Nat} {l b : List UInt8} {V : Value} (h : Tryd.Hs w g l) (hT : Tryd.Tq w) (hg : 2 ≤ g) (hb : Bs w V b) (hn : V.ownBlock ≠ some g) (hc : l.length + b.length ≤ 1000000000000000) :
    Calls Tryd.prog 23 #[.pointer (some ⟨g, 0, none⟩), V] w fun e w' => e = .returned (.tuple #[]) ∧ Tryd.Hs w' g (l ++ b) ∧ Wo (fun j => j = g) w w' := by
  obtain ⟨s, R, h1, h2⟩ := h.ex
  exact (Tryd.write_any hT hg h1 h2 hb hn hc).mono fun e w' ⟨e1, s', R', g1, g2, g3⟩ => ⟨e1, ⟨s', R', by rw [List.length_append]; exact g1, g2⟩, g3⟩
theorem Tryd.Hs.sum {w : World} {g : Nat} {l : List UInt8} (h : Tryd.Hs w g l) (hT : Tryd.Tq w) (hc : l.length ≤ 900000000000000) :
    Calls Tryd.prog 24 #[.pointer (some ⟨g, 0, none⟩)] w fun e w' => e = .returned (.agg (Lib.byteCells (Dg.sum l)).toArray) ∧ Below w.heap.size w w' := by
  obtain ⟨s, R, h1, h2⟩ := h.ex
  exact Tryd.sumH_any hT h1 h2 hc
end Go.Proofs
