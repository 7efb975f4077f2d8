/-
  Many rows of bytes that are held, of blocks of their own.
-/
import Derived.Test.YtkfmfdnfjeofiaaDoorIy
namespace Go.Dg
open Go.RowKit Go.Wi
theorem Ob.ov {w : World} {B : Nat} {V : Value} {l : List UInt8} (h : Ob w B V l) : Ov w B V (Lib.byteCells l) := by
  rcases h with ⟨rfl, rfl⟩ | ⟨g, cap, rfl, h1, h2, h3, h4, h5⟩
  · exact .inl ⟨rfl, rfl⟩
  · exact .inr ⟨g, cap, by rw [byteCells_len], h1, h2, by rw [byteCells_len]; exact h3, h4, h5⟩
theorem Ov.ob {w : World} {B : Nat} {V : Value} {l : List UInt8} (h : Ov w B V (Lib.byteCells l)) : Ob w B V l := by
  rcases h with ⟨rfl, h0⟩ | ⟨g, cap, rfl, h1, h2, h3, h4, h5⟩
  · exact .inl ⟨rfl, List.eq_nil_of_length_eq_zero (by rw [← byteCells_len, h0]; rfl)⟩
  · exact .inr ⟨g, cap, by rw [byteCells_len], h1, h2, by rw [byteCells_len] at h3; exact h3, h4, h5⟩
/-- Texts, and rows of bytes, held; two rows that are not of one family share no block. -/
structure Ls (w0 : World) (tv lv : Value) (ts vs : List Value) (bs : Nat → List UInt8) (w : World) : Prop where
  b : Below w0.heap.size w0 w
  t : Ov w w0.heap.size tv ts
  l : Ov w w0.heap.size lv vs
  o : ∀ (j : Nat) (v : Value), vs[j]? = some v → Ob w w0.heap.size v (bs j)
  d : ∀ (i j : Nat) (vi vj : Value) (k : Nat), vs[i]? = some vi → vs[j]? = some vj → i % 24 ≠ j % 24 → vi.ownBlock = some k → vj.ownBlock ≠ some k
  x : ∀ (j : Nat) (v : Value) (k : Nat), vs[j]? = some v → v.ownBlock = some k → tv.ownBlock ≠ some k ∧ lv.ownBlock ≠ some k
  y : ∀ k, tv.ownBlock = some k → lv.ownBlock ≠ some k
  z : ∀ j, (bs j).length ≤ 8000000
section
variable {w0 w w' : World} {tv lv : Value} {ts vs : List Value} {bs : Nat → List UInt8}
theorem Ls.keep (h : Ls w0 tv lv ts vs bs w) (hb : Below w0.heap.size w0 w') (ht : ∀ k, tv.ownBlock = some k → w'.heap[k]? = w.heap[k]?) (hl : ∀ k, lv.ownBlock = some k → w'.heap[k]? = w.heap[k]?) (hv : ∀ (j : Nat) (v : Value) (k : Nat), vs[j]? = some v → v.ownBlock = some k → w'.heap[k]? = w.heap[k]?) : Ls w0 tv lv ts vs bs w' :=
  ⟨hb, h.t.keep ht, h.l.keep hl, fun j v e => (h.o j v e).keep fun k e' => hv j v k e e', h.d, h.x, h.y, h.z⟩
theorem Ls.below (h : Ls w0 tv lv ts vs bs w) (g : Below w.heap.size w w') : Ls w0 tv lv ts vs bs w' :=
  h.keep (h.b.trans (g.mono h.b.size)) (fun k e => g.block k (h.t.lt k e).2) (fun k e => g.block k (h.l.lt k e).2) fun j v k e e' => g.block k ((h.o j v e).lt k e').2
theorem Ls.start (w0 : World) : Ls w0 (.slice none 0 0) (.slice none 0 0) [] [] (fun _ => []) w0 :=
  ⟨Below.refl _ _, Ov.nil _ _, Ov.nil _ _, (fun j v e => by cases e), (fun i j vi vj k e => by cases e), (fun j v k e => by cases e), (fun k e => by cases e), fun _ => Nat.zero_le _⟩
/-- More texts, while nothing is held. -/
theorem Ls.texts (h : Ls w0 tv (.slice none 0 0) ts [] bs w) {tv' : Value} {ts' : List Value} (h1 : Ov w' w0.heap.size tv' ts') (hb : Below w0.heap.size w0 w') : Ls w0 tv' (.slice none 0 0) ts' [] bs w' :=
  ⟨hb, h1, .inl ⟨rfl, rfl⟩, (fun j v e => by cases e), (fun i j vi vj k e => by cases e), (fun j v k e => by cases e), (fun k _ e => by cases e), h.z⟩
/-- One more is held. -/
theorem Ls.push (h : Ls w0 tv lv ts vs bs w) {x : Value} {bx : List UInt8} (hx : Ob w w0.heap.size x bx) (hd : ∀ (j : Nat) (v : Value) (k : Nat), vs[j]? = some v → j % 24 ≠ vs.length % 24 → v.ownBlock = some k → x.ownBlock ≠ some k)
    (hxt : ∀ k, x.ownBlock = some k → tv.ownBlock ≠ some k ∧ lv.ownBlock ≠ some k) (hz : bx.length ≤ 8000000) {ad : Option Addr} {n cap : Nat} (h1 : Ov w' w0.heap.size (.slice ad n cap) (vs ++ [x]))
    (hc : (∃ g, lv = .slice (some ⟨g, 0, none⟩) vs.length cap ∧ ad = some ⟨g, 0, none⟩ ∧ Wo (fun k => k = g) w w') ∨ (Below w.heap.size w w' ∧ ∀ k', (Value.slice ad n cap).ownBlock = some k' → w.heap.size ≤ k')) :
    Ls w0 tv (.slice ad n cap) ts (vs ++ [x]) (fun j => if j = vs.length then bx else bs j) w' := by
  have hsz := h.b.size
  have split : ∀ {j : Nat} {v : Value}, (vs ++ [x])[j]? = some v → (j < vs.length ∧ vs[j]? = some v) ∨ (j = vs.length ∧ v = x) := by
    intro j v e
    by_cases hj : j < vs.length
    · rw [List.getElem?_append_left hj] at e; exact .inl ⟨hj, e⟩
    · rw [List.getElem?_append_right (by omega)] at e
      have h9 := (List.getElem?_eq_some_iff.1 e).1
      have hj' : j = vs.length := by simp at h9; omega
      subst hj'
      simp at e
      exact .inr ⟨rfl, e.symm⟩
  have key : Below w0.heap.size w0 w' ∧ (∀ k, lv.ownBlock ≠ some k → k < w.heap.size → w'.heap[k]? = w.heap[k]?) ∧ ∀ k, (Value.slice ad n cap).ownBlock = some k → lv.ownBlock = some k ∨ w.heap.size ≤ k := by
    rcases hc with ⟨g, e1, e2, hw⟩ | ⟨hb, hf⟩
    · have hg := (h.l.lt g (by rw [e1]; rfl)).1
      refine ⟨Wo.toBelow h.b hw (fun k e => by rw [e]; exact hg) hsz, fun k hk hl => hw.block k hl fun e => hk (by rw [e1, e]; rfl), fun k e => .inl (by rw [e1]; rw [e2] at e; exact e)⟩
    · exact ⟨h.b.trans (hb.mono hsz), fun k _ hl => hb.block k hl, fun k e => .inr (hf k e)⟩
  obtain ⟨k1, k2, k3⟩ := key
  refine ⟨k1, h.t.keep fun k e => k2 k (h.y k e) (h.t.lt k e).2, h1, fun j v e => ?_, fun i j vi vj k ei ej hn eo => ?_, fun j v k e eo => ?_, fun k e eo => ?_, fun j => ?_⟩
  · rcases split e with ⟨hj, e⟩ | ⟨hj, rfl⟩
    · rw [if_neg (by omega)]
      exact (h.o j v e).keep fun k e' => k2 k (h.x j v k e e').2 ((h.o j v e).lt k e').2
    · rw [if_pos hj]
      exact hx.keep fun k e' => k2 k (hxt k e').2 (hx.lt k e').2
  · rcases split ei with ⟨hi, e1⟩ | ⟨hi, e1⟩
    · rcases split ej with ⟨hj, e2⟩ | ⟨hj, e2⟩
      · exact h.d i j vi vj k e1 e2 hn eo
      · rw [e2]
        exact hd i vi k e1 (by rw [← hj]; exact hn) eo
    · rcases split ej with ⟨hj, e2⟩ | ⟨hj, e2⟩
      · rw [e1] at eo
        exact fun e3 => hd j vj k e2 (by rw [← hi]; exact fun e => hn e.symm) e3 eo
      · exact absurd (by rw [hi, hj]) hn
  · have : tv.ownBlock ≠ some k ∧ lv.ownBlock ≠ some k ∧ k < w.heap.size := by
      rcases split e with ⟨hj, e⟩ | ⟨hj, rfl⟩
      · exact ⟨(h.x j v k e eo).1, (h.x j v k e eo).2, ((h.o j v e).lt k eo).2⟩
      · exact ⟨(hxt k eo).1, (hxt k eo).2, (hx.lt k eo).2⟩
    exact ⟨this.1, fun e2 => by rcases k3 k e2 with e3 | e3; exact this.2.1 e3; omega⟩
  · have := (h.t.lt k e).2
    rcases k3 k eo with e3 | e3
    · exact h.y k e e3
    · omega
  · split
    · exact hz
    · exact h.z j
/-- One byte of one of them is written over. -/
theorem Ls.set (h : Ls w0 tv lv ts vs bs w) {i k g n cap : Nat} {c : UInt8} {v : Int} (hl : vs.length ≤ 24) (hi : vs[i]? = some (.slice (some ⟨g, 0, none⟩) n cap)) (hv : v = (c.toNat : Nat)) (hk : k < (bs i).length) :
    Ls w0 tv lv ts vs (fun j => if j = i then (bs i).set k c else bs j) (w.setCell ⟨g, k, none⟩ (.int .u8 v)) := by
  have hg := (h.o i _ hi).lt g rfl
  have hw : Wo (fun j => j = g) w (w.setCell ⟨g, k, none⟩ (.int .u8 v)) := (Wo.refl _ w).setCell g k _ (.inl rfl)
  have hil := (List.getElem?_eq_some_iff.1 hi).1
  have hx := h.x i _ g hi rfl
  refine ⟨Wo.toBelow h.b hw (fun j e => by rw [e]; exact hg.1) h.b.size, h.t.keep fun j e => hw.block j (h.t.lt j e).2 (fun e' => hx.1 (by rw [← e']; exact e)), h.l.keep fun j e => hw.block j (h.l.lt j e).2 (fun e' => hx.2 (by rw [← e']; exact e)), fun j u e => ?_, h.d, h.x, h.y, fun j => ?_⟩
  · by_cases hj : j = i
    · subst hj
      rw [if_pos rfl]
      rw [hi] at e
      cases e
      exact (h.o j _ hi).set k c v hv hk
    · rw [if_neg hj]
      have hjl := (List.getElem?_eq_some_iff.1 e).1
      exact (h.o j u e).keep fun q e' => hw.block q ((h.o j u e).lt q e').2 fun e2 => h.d j i u _ q e hi (by omega) e' (by rw [e2]; rfl)
  · split
    · rw [List.length_set]; exact h.z i
    · exact h.z j
end
/-- One of them is grown. -/
structure Gr (w0 : World) (tv lv : Value) (ts vs : List Value) (bs : Nat → List UInt8) (i : Nat) (gv : Value) (gl : List UInt8) (w : World) : Prop where
  s : Ls w0 tv lv ts vs bs w
  g : Ob w w0.heap.size gv gl
  d : ∀ (j : Nat) (v : Value) (k : Nat), vs[j]? = some v → j % 24 ≠ i % 24 → v.ownBlock = some k → gv.ownBlock ≠ some k
  x : ∀ k, gv.ownBlock = some k → tv.ownBlock ≠ some k ∧ lv.ownBlock ≠ some k
  u : ∀ j, j < vs.length → j % 24 = i % 24 → j = i
  f : (∃ g n cap m, vs[i]? = some (.slice (some ⟨g, 0, none⟩) n cap) ∧ gv = .slice (some ⟨g, 0, none⟩) m cap ∧ bs i = gl.take n ∧ n ≤ gl.length) ∨ ∀ (v : Value) (k : Nat), vs[i]? = some v → v.ownBlock = some k → gv.ownBlock ≠ some k
section
variable {w0 w w' : World} {tv lv gv : Value} {ts vs : List Value} {bs : Nat → List UInt8} {i : Nat} {gl : List UInt8}
theorem Gr.start (h : Ls w0 tv lv ts vs bs w) (hi : vs[i]? = some gv) (hu : ∀ j, j < vs.length → j % 24 = i % 24 → j = i) : Gr w0 tv lv ts vs bs i gv (bs i) w := by
  refine ⟨h, h.o i _ hi, fun j v k e hn eo => h.d j i v gv k e hi hn eo, fun k e => h.x i gv k hi e, hu, ?_⟩
  rcases h.o i _ hi with ⟨rfl, h1⟩ | ⟨g, cap, rfl, h1⟩
  · exact .inr fun v k _ _ e => by cases e
  · exact .inl ⟨g, _, cap, _, hi, rfl, by rw [List.take_length], Nat.le_refl _⟩
theorem Gr.below (h : Gr w0 tv lv ts vs bs i gv gl w) (hb : Below w.heap.size w w') : Gr w0 tv lv ts vs bs i gv gl w' := ⟨h.s.below hb, h.g.below hb (Nat.le_refl _), h.d, h.x, h.u, h.f⟩
theorem Gr.app (h : Gr w0 tv lv ts vs bs i gv gl w) {ad : Option Addr} {n cap : Nat} {m : UInt8} (h1 : Ob w' w0.heap.size (.slice ad n cap) (gl ++ [m]))
    (hc : (∃ g, gv = .slice (some ⟨g, 0, none⟩) gl.length cap ∧ ad = some ⟨g, 0, none⟩ ∧ Wo (fun k => k = g) w w') ∨ (Below w.heap.size w w' ∧ ∀ k', (Value.slice ad n cap).ownBlock = some k' → w.heap.size ≤ k')) :
    Gr w0 tv lv ts vs bs i (.slice ad n cap) (gl ++ [m]) w' := by
  rcases hc with ⟨g, rfl, rfl, hw⟩ | ⟨hb, hf⟩
  · have hg := h.g.lt g rfl
    have hx := h.x g rfl
    refine ⟨⟨Wo.toBelow h.s.b hw (fun k e => by rw [e]; exact hg.1) h.s.b.size, h.s.t.keep fun k e => hw.block k (h.s.t.lt k e).2 (fun e' => hx.1 (by rw [← e']; exact e)), h.s.l.keep fun k e => hw.block k (h.s.l.lt k e).2 (fun e' => hx.2 (by rw [← e']; exact e)), fun j v e => ?_, h.s.d, h.s.x, h.s.y, h.s.z⟩, h1, fun j v k e hn eo => h.d j v k e hn eo, fun k e => h.x k e, h.u, ?_⟩
    · have hjl := (List.getElem?_eq_some_iff.1 e).1
      by_cases hj : j = i
      · subst hj
        rcases h.f with ⟨g', n', cap', m', e1, e2, e3, e4⟩ | hr
        · rw [e1] at e
          cases e
          injection e2 with e5 e6 e7
          injection e5 with e5
          injection e5 with e5
          subst e5 e7
          have h2 := h1.take n' (by rw [List.length_append]; omega)
          rw [List.take_append_of_le_length e4, ← e3] at h2
          exact h2
        · exact (h.s.o j v e).keep fun k e' => hw.block k ((h.s.o j v e).lt k e').2 fun e2 => hr v k e e' (by rw [e2]; rfl)
      · exact (h.s.o j v e).keep fun k e' => hw.block k ((h.s.o j v e).lt k e').2 fun e2 => h.d j v k e (fun e3 => hj (h.u j hjl e3)) e' (by rw [e2]; rfl)
    · rcases h.f with ⟨g', n', cap', m', e1, e2, e3, e4⟩ | hr
      · injection e2 with e5 e6 e7
        injection e5 with e5
        injection e5 with e5
        subst e5 e7
        exact .inl ⟨g, n', cap, n, e1, rfl, by rw [List.take_append_of_le_length e4]; exact e3, by rw [List.length_append]; omega⟩
      · exact .inr fun v k e eo => hr v k e eo
  · have hs := h.s.below hb
    have hsz := h.s.b.size
    refine ⟨hs, h1, fun j v k e _ eo e2 => ?_, fun k e => ⟨fun e2 => ?_, fun e2 => ?_⟩, h.u, .inr fun v k e eo e2 => ?_⟩
    · have := ((h.s.o j v e).lt k eo).2; have := hf k e2; omega
    · have := (h.s.t.lt k e2).2; have := hf k e; omega
    · have := (h.s.l.lt k e2).2; have := hf k e; omega
    · have := ((h.s.o i v e).lt k eo).2; have := hf k e2; omega
/-- And held, too. -/
theorem Gr.push (h : Gr w0 tv lv ts vs bs i gv gl w) (hi : vs.length % 24 = i % 24) (hz : gl.length ≤ 8000000) {ad : Option Addr} {n cap : Nat} (h1 : Ov w' w0.heap.size (.slice ad n cap) (vs ++ [gv]))
    (hc : (∃ g, lv = .slice (some ⟨g, 0, none⟩) vs.length cap ∧ ad = some ⟨g, 0, none⟩ ∧ Wo (fun k => k = g) w w') ∨ (Below w.heap.size w w' ∧ ∀ k', (Value.slice ad n cap).ownBlock = some k' → w.heap.size ≤ k')) :
    Ls w0 tv (.slice ad n cap) ts (vs ++ [gv]) (fun j => if j = vs.length then gl else bs j) w' :=
  h.s.push h.g (fun j v k e hn eo => h.d j v k e (by rw [← hi]; exact hn) eo) h.x hz h1 hc
end
end Go.Dg
