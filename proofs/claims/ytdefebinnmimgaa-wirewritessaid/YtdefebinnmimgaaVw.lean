/-
  FOUR WRITERS AND THE HOLDS, each in its own blocks: a tag for each block.
-/
import Derived.Test.YtdefebinnmimgaaVv
import Derived.Test.YtdefebinnmimgaaVq
namespace Go.Proofs
open Go.RowKit Go.Wi
theorem Try.Wt.more {T : TypeId} {w : World} {own own2 : Nat → Prop} {x : Nat} {l : List UInt8} (h : Try.Wt T w own x l) (h1 : ∀ k, own k → own2 k) (h2 : ∀ k, own2 k → k < w.heap.size) : Try.Wt T w own2 x l := by
  obtain ⟨V, g1, g2, g3, g4⟩ := h.ex
  exact ⟨⟨V, g1, g2, g3, fun k e => h1 k (g4 k e)⟩, h1 x h.ox, h2⟩
theorem Try.Hs.more {w : World} {own own2 : Nat → Prop} {kv : Value} {hs : List Wi.Hd} (h : Try.Hs w own kv hs) (h1 : ∀ k, own k → own2 k) (h2 : ∀ k, own2 k → k < w.heap.size) : Try.Hs w own2 kv hs :=
  ⟨h.row, fun k e => h1 k (h.ko k e), fun x hx => ⟨(h.each x hx).1, fun k e => ⟨h1 k ((h.each x hx).2 k e).1, ((h.each x hx).2 k e).2⟩⟩, h2⟩
/-- The tags behind a call that turns what bears the tag i (and what bears u). -/
theorem Wi.retag (tag : Nat → Nat) (i : Nat) (_hi : i ≠ 0) (u : Nat → Prop) (B s s' : Nat) (h0 : ∀ k, tag k ≠ 0 → B ≤ k ∧ k < s) (hu : ∀ k, u k → B ≤ k ∧ k < s) (own' : Nat → Prop) (h1 : ∀ k, own' k → tag k = i ∨ u k ∨ s ≤ k) (h2 : ∀ k, own' k → k < s') (hs : s ≤ s') (hB : B ≤ s) :
    ∃ tag' : Nat → Nat, (∀ k, tag' k ≠ 0 → B ≤ k ∧ k < s') ∧ (∀ j, j ≠ i → j ≠ 0 → (∀ k, tag k = j → ¬ u k) → (fun k => tag' k = j) = (fun k => tag k = j)) ∧ (∀ k, own' k → tag' k = i) := by
  classical
  refine ⟨fun k => if k < s then (if u k then i else tag k) else if own' k then i else 0, fun k hk => ?_, fun j hj hj0 hju => ?_, fun k hk => ?_⟩
  · simp only at hk
    by_cases a : k < s
    · rw [if_pos a] at hk
      by_cases b : u k
      · exact ⟨(hu k b).1, by omega⟩
      · rw [if_neg b] at hk
        exact ⟨(h0 k hk).1, by omega⟩
    · rw [if_neg a] at hk
      by_cases b : own' k
      · exact ⟨by omega, h2 k b⟩
      · rw [if_neg b] at hk; exact absurd rfl hk
  · funext k
    apply propext
    simp only
    by_cases a : k < s
    · rw [if_pos a]
      by_cases b : u k
      · rw [if_pos b]
        exact ⟨fun e => absurd e.symm hj, fun e => absurd b (hju k e)⟩
      · rw [if_neg b]
    · rw [if_neg a]
      constructor
      · intro e
        by_cases b : own' k
        · rw [if_pos b] at e; exact absurd e.symm hj
        · rw [if_neg b] at e; exact absurd e.symm hj0
      · intro e
        have := (h0 k (by rw [e]; exact hj0)).2
        omega
  · simp only
    by_cases a : k < s
    · rw [if_pos a]
      by_cases b : u k
      · rw [if_pos b]
      · rw [if_neg b]
        rcases h1 k hk with e | e | e
        · exact e
        · exact absurd e b
        · omega
    · rw [if_neg a, if_pos hk]
/-- The zoo. -/
structure Try.Zo (B : Nat) (tag : Nat → Nat) (w : World) (xa xb xx xy : Nat) (la lb lx ly : List UInt8) (kv : Value) (hs : List Wi.Hd) : Prop where
  lt : ∀ k, tag k ≠ 0 → B ≤ k ∧ k < w.heap.size
  a : Try.Wt 88 w (fun k => tag k = 1) xa la
  b : Try.Wt 88 w (fun k => tag k = 2) xb lb
  x : Try.Wt 79 w (fun k => tag k = 3) xx lx
  y : Try.Wt 79 w (fun k => tag k = 4) xy ly
  h : Try.Hs w (fun k => tag k = 5) kv hs
structure Try.Zoo (B : Nat) (w0 w : World) (xa xb xx xy : Nat) (la lb lx ly : List UInt8) (kv : Value) (hs : List Wi.Hd) : Prop where
  ex : ∃ tag, Try.Zo B tag w xa xb xx xy la lb lx ly kv hs
  bel : Below B w0 w
theorem Try.Zo.le {B : Nat} {tag : Nat → Nat} {w : World} {xa xb xx xy : Nat} {la lb lx ly : List UInt8} {kv : Value} {hs : List Wi.Hd} (h : Try.Zo B tag w xa xb xx xy la lb lx ly kv hs) : B ≤ w.heap.size := by
  have := h.lt xa (by rw [h.a.ox]; decide)
  omega
theorem Try.Zo.below {B : Nat} {tag : Nat → Nat} {w w' : World} {xa xb xx xy : Nat} {la lb lx ly : List UInt8} {kv : Value} {hs : List Wi.Hd} (h : Try.Zo B tag w xa xb xx xy la lb lx ly kv hs) (g : Below w.heap.size w w') : Try.Zo B tag w' xa xb xx xy la lb lx ly kv hs :=
  ⟨fun k e => ⟨(h.lt k e).1, Nat.lt_of_lt_of_le (h.lt k e).2 g.size⟩, h.a.below g, h.b.below g, h.x.below g, h.y.below g, h.h.keep (fun k e => g.block k (h.h.lt k e)) g.size⟩
theorem Try.Zoo.le {B : Nat} {w0 w : World} {xa xb xx xy : Nat} {la lb lx ly : List UInt8} {kv : Value} {hs : List Wi.Hd} (h : Try.Zoo B w0 w xa xb xx xy la lb lx ly kv hs) : B ≤ w.heap.size := by
  obtain ⟨tag, g⟩ := h.ex
  exact g.le
theorem Try.Zoo.below {B : Nat} {w0 w w' : World} {xa xb xx xy : Nat} {la lb lx ly : List UInt8} {kv : Value} {hs : List Wi.Hd} (h : Try.Zoo B w0 w xa xb xx xy la lb lx ly kv hs) (g : Below w.heap.size w w') : Try.Zoo B w0 w' xa xb xx xy la lb lx ly kv hs := by
  obtain ⟨tag, h1⟩ := h.ex
  exact ⟨⟨tag, h1.below g⟩, h.bel.trans (g.mono h1.le)⟩
theorem Try.Zoo.call_a {B : Nat} {w0 w : World} {xa xb xx xy : Nat} {la lb lx ly la' : List UInt8} {kv : Value} {hs : List Wi.Hd} {fn : FuncId} {args : Array Value} (h : Try.Zoo B w0 w xa xb xx xy la lb lx ly kv hs) (hcall : ∀ own, (∀ k, own k → B ≤ k) → Try.Wt 88 w own xa la → Calls Try.prog fn args w fun e w' => (∃ v, e = .returned v) ∧ Try.WChg 88 own w w' xa la') :
    Calls Try.prog fn args w fun e w' => (∃ v, e = .returned v) ∧ Try.Zoo B w0 w' xa xb xx xy la' lb lx ly kv hs := by
  obtain ⟨tag, g⟩ := h.ex
  refine (hcall (fun k => tag k = 1) (fun k e => (g.lt k (by rw [e]; decide)).1) g.a).mono fun _ w' ⟨e1, hc⟩ => ⟨e1, ?_⟩
  obtain ⟨own', g1, g2⟩ := hc.ex
  obtain ⟨tag', t1, t2, t3⟩ := Wi.retag tag 1 (by decide) (fun _ => False) B w.heap.size w'.heap.size g.lt (fun _ e => e.elim) own' (fun k e => by rcases g2 k e with e2 | e2; exact .inl e2; exact .inr (.inr e2)) g1.lt hc.wo.size g.le
  exact ⟨⟨tag', t1, g1.more (fun k e => t3 k e) (fun k e => (t1 k (by rw [e]; decide)).2), (by rw [t2 2 (by decide) (by decide) (fun _ _ e => e)]; exact g.b.keep (fun k e => hc.wo.block k (g.b.lt k e) (fun e2 => by omega)) hc.wo.size), (by rw [t2 3 (by decide) (by decide) (fun _ _ e => e)]; exact g.x.keep (fun k e => hc.wo.block k (g.x.lt k e) (fun e2 => by omega)) hc.wo.size), (by rw [t2 4 (by decide) (by decide) (fun _ _ e => e)]; exact g.y.keep (fun k e => hc.wo.block k (g.y.lt k e) (fun e2 => by omega)) hc.wo.size), (by rw [t2 5 (by decide) (by decide) (fun _ _ e => e)]; exact g.h.keep (fun k e => hc.wo.block k (g.h.lt k e) (fun e2 => by omega)) hc.wo.size)⟩, Wo.toBelow h.bel hc.wo (fun k e => (g.lt k (by rw [e]; decide)).1) g.le⟩
theorem Try.Zoo.call_b {B : Nat} {w0 w : World} {xa xb xx xy : Nat} {la lb lx ly lb' : List UInt8} {kv : Value} {hs : List Wi.Hd} {fn : FuncId} {args : Array Value} (h : Try.Zoo B w0 w xa xb xx xy la lb lx ly kv hs) (hcall : ∀ own, (∀ k, own k → B ≤ k) → Try.Wt 88 w own xb lb → Calls Try.prog fn args w fun e w' => (∃ v, e = .returned v) ∧ Try.WChg 88 own w w' xb lb') :
    Calls Try.prog fn args w fun e w' => (∃ v, e = .returned v) ∧ Try.Zoo B w0 w' xa xb xx xy la lb' lx ly kv hs := by
  obtain ⟨tag, g⟩ := h.ex
  refine (hcall (fun k => tag k = 2) (fun k e => (g.lt k (by rw [e]; decide)).1) g.b).mono fun _ w' ⟨e1, hc⟩ => ⟨e1, ?_⟩
  obtain ⟨own', g1, g2⟩ := hc.ex
  obtain ⟨tag', t1, t2, t3⟩ := Wi.retag tag 2 (by decide) (fun _ => False) B w.heap.size w'.heap.size g.lt (fun _ e => e.elim) own' (fun k e => by rcases g2 k e with e2 | e2; exact .inl e2; exact .inr (.inr e2)) g1.lt hc.wo.size g.le
  exact ⟨⟨tag', t1, (by rw [t2 1 (by decide) (by decide) (fun _ _ e => e)]; exact g.a.keep (fun k e => hc.wo.block k (g.a.lt k e) (fun e2 => by omega)) hc.wo.size), g1.more (fun k e => t3 k e) (fun k e => (t1 k (by rw [e]; decide)).2), (by rw [t2 3 (by decide) (by decide) (fun _ _ e => e)]; exact g.x.keep (fun k e => hc.wo.block k (g.x.lt k e) (fun e2 => by omega)) hc.wo.size), (by rw [t2 4 (by decide) (by decide) (fun _ _ e => e)]; exact g.y.keep (fun k e => hc.wo.block k (g.y.lt k e) (fun e2 => by omega)) hc.wo.size), (by rw [t2 5 (by decide) (by decide) (fun _ _ e => e)]; exact g.h.keep (fun k e => hc.wo.block k (g.h.lt k e) (fun e2 => by omega)) hc.wo.size)⟩, Wo.toBelow h.bel hc.wo (fun k e => (g.lt k (by rw [e]; decide)).1) g.le⟩
theorem Try.Zoo.call_x {B : Nat} {w0 w : World} {xa xb xx xy : Nat} {la lb lx ly lx' : List UInt8} {kv : Value} {hs : List Wi.Hd} {fn : FuncId} {args : Array Value} (h : Try.Zoo B w0 w xa xb xx xy la lb lx ly kv hs) (hcall : ∀ own, (∀ k, own k → B ≤ k) → Try.Wt 79 w own xx lx → Calls Try.prog fn args w fun e w' => (∃ v, e = .returned v) ∧ Try.WChg 79 own w w' xx lx') :
    Calls Try.prog fn args w fun e w' => (∃ v, e = .returned v) ∧ Try.Zoo B w0 w' xa xb xx xy la lb lx' ly kv hs := by
  obtain ⟨tag, g⟩ := h.ex
  refine (hcall (fun k => tag k = 3) (fun k e => (g.lt k (by rw [e]; decide)).1) g.x).mono fun _ w' ⟨e1, hc⟩ => ⟨e1, ?_⟩
  obtain ⟨own', g1, g2⟩ := hc.ex
  obtain ⟨tag', t1, t2, t3⟩ := Wi.retag tag 3 (by decide) (fun _ => False) B w.heap.size w'.heap.size g.lt (fun _ e => e.elim) own' (fun k e => by rcases g2 k e with e2 | e2; exact .inl e2; exact .inr (.inr e2)) g1.lt hc.wo.size g.le
  exact ⟨⟨tag', t1, (by rw [t2 1 (by decide) (by decide) (fun _ _ e => e)]; exact g.a.keep (fun k e => hc.wo.block k (g.a.lt k e) (fun e2 => by omega)) hc.wo.size), (by rw [t2 2 (by decide) (by decide) (fun _ _ e => e)]; exact g.b.keep (fun k e => hc.wo.block k (g.b.lt k e) (fun e2 => by omega)) hc.wo.size), g1.more (fun k e => t3 k e) (fun k e => (t1 k (by rw [e]; decide)).2), (by rw [t2 4 (by decide) (by decide) (fun _ _ e => e)]; exact g.y.keep (fun k e => hc.wo.block k (g.y.lt k e) (fun e2 => by omega)) hc.wo.size), (by rw [t2 5 (by decide) (by decide) (fun _ _ e => e)]; exact g.h.keep (fun k e => hc.wo.block k (g.h.lt k e) (fun e2 => by omega)) hc.wo.size)⟩, Wo.toBelow h.bel hc.wo (fun k e => (g.lt k (by rw [e]; decide)).1) g.le⟩
theorem Try.Zoo.call_y {B : Nat} {w0 w : World} {xa xb xx xy : Nat} {la lb lx ly ly' : List UInt8} {kv : Value} {hs : List Wi.Hd} {fn : FuncId} {args : Array Value} (h : Try.Zoo B w0 w xa xb xx xy la lb lx ly kv hs) (hcall : ∀ own, (∀ k, own k → B ≤ k) → Try.Wt 79 w own xy ly → Calls Try.prog fn args w fun e w' => (∃ v, e = .returned v) ∧ Try.WChg 79 own w w' xy ly') :
    Calls Try.prog fn args w fun e w' => (∃ v, e = .returned v) ∧ Try.Zoo B w0 w' xa xb xx xy la lb lx ly' kv hs := by
  obtain ⟨tag, g⟩ := h.ex
  refine (hcall (fun k => tag k = 4) (fun k e => (g.lt k (by rw [e]; decide)).1) g.y).mono fun _ w' ⟨e1, hc⟩ => ⟨e1, ?_⟩
  obtain ⟨own', g1, g2⟩ := hc.ex
  obtain ⟨tag', t1, t2, t3⟩ := Wi.retag tag 4 (by decide) (fun _ => False) B w.heap.size w'.heap.size g.lt (fun _ e => e.elim) own' (fun k e => by rcases g2 k e with e2 | e2; exact .inl e2; exact .inr (.inr e2)) g1.lt hc.wo.size g.le
  exact ⟨⟨tag', t1, (by rw [t2 1 (by decide) (by decide) (fun _ _ e => e)]; exact g.a.keep (fun k e => hc.wo.block k (g.a.lt k e) (fun e2 => by omega)) hc.wo.size), (by rw [t2 2 (by decide) (by decide) (fun _ _ e => e)]; exact g.b.keep (fun k e => hc.wo.block k (g.b.lt k e) (fun e2 => by omega)) hc.wo.size), (by rw [t2 3 (by decide) (by decide) (fun _ _ e => e)]; exact g.x.keep (fun k e => hc.wo.block k (g.x.lt k e) (fun e2 => by omega)) hc.wo.size), g1.more (fun k e => t3 k e) (fun k e => (t1 k (by rw [e]; decide)).2), (by rw [t2 5 (by decide) (by decide) (fun _ _ e => e)]; exact g.h.keep (fun k e => hc.wo.block k (g.h.lt k e) (fun e2 => by omega)) hc.wo.size)⟩, Wo.toBelow h.bel hc.wo (fun k e => (g.lt k (by rw [e]; decide)).1) g.le⟩
/-- With three rows that came out, those from k on untouched, and two blocks that are kept. -/
structure Try.Z3 (B : Nat) (w0 w : World) (xa xb xx xy : Nat) (la lb lx ly : List UInt8) (kv : Value) (hs : List Wi.Hd) (V : Nat → Value) (L : Nat → List UInt8) (g3 gw : Nat) (O3 Ow : Obj) (k : Nat) : Prop where
  ex : ∃ tag, Try.Zo B tag w xa xb xx xy la lb lx ly kv hs ∧ (∀ j, k ≤ j → j < 3 → w.ownsRow 0 5 1 (V j) (L j).length (Lib.byteCells (L j)) ∧ ∀ q, (V j).ownBlock = some q → tag q = 6 + j) ∧ w.heap[g3]? = some O3 ∧ w.heap[gw]? = some Ow ∧ tag g3 = 9 ∧ tag gw = 9
  bel : Below B w0 w
theorem Try.Z3.zoo {B : Nat} {w0 w : World} {xa xb xx xy : Nat} {la lb lx ly : List UInt8} {kv : Value} {hs : List Wi.Hd} {V : Nat → Value} {L : Nat → List UInt8} {g3 gw : Nat} {O3 Ow : Obj} {k : Nat} (h : Try.Z3 B w0 w xa xb xx xy la lb lx ly kv hs V L g3 gw O3 Ow k) : Try.Zoo B w0 w xa xb xx xy la lb lx ly kv hs := by
  obtain ⟨tag, g, -⟩ := h.ex
  exact ⟨⟨tag, g⟩, h.bel⟩
theorem Try.Z3.drewN {B : Nat} {w0 w : World} {xa xb xx xy : Nat} {la lb lx ly : List UInt8} {kv : Value} {hs : List Wi.Hd} {V : Nat → Value} {L : Nat → List UInt8} {g3 gw : Nat} {O3 Ow : Obj} {k : Nat} (h : Try.Z3 B w0 w xa xb xx xy la lb lx ly kv hs V L g3 gw O3 Ow k) (n : Nat) : Try.Z3 B w0 (w.drewN n) xa xb xx xy la lb lx ly kv hs V L g3 gw O3 Ow k := by
  obtain ⟨tag, g, g1, g2⟩ := h.ex
  exact ⟨⟨tag, g.below (belowN (Below.refl _ _) n), g1, g2⟩, belowN h.bel n⟩
theorem Try.Z3.keeps {B : Nat} {w0 w : World} {xa xb xx xy : Nat} {la lb lx ly : List UInt8} {kv : Value} {hs : List Wi.Hd} {V : Nat → Value} {L : Nat → List UInt8} {g3 gw : Nat} {O3 Ow : Obj} {k : Nat} (h : Try.Z3 B w0 w xa xb xx xy la lb lx ly kv hs V L g3 gw O3 Ow k) (hk : k < 3) (hl : hs.length ≤ 100000) (hn : (L k).length ≤ 2000000) :
    Calls Try.prog 44 #[kv, V k] w fun e w' => ∃ ad cap hs', e = .returned (.slice ad (hs.length + 4) cap) ∧ hs'.length = hs.length + 4 ∧ (∀ x ∈ hs', x ∈ hs ∨ x.n ≤ (L k).length + 3) ∧ Try.Z3 B w0 w' xa xb xx xy la lb lx ly (.slice ad (hs.length + 4) cap) hs' V L g3 gw O3 Ow (k + 1) := by
  obtain ⟨tag, g, g1, g2, g3', g4, g5⟩ := h.ex
  obtain ⟨r1, r2⟩ := g1 k (Nat.le_refl _) hk
  have hnt : ∀ q, (V k).ownBlock = some q → tag q ≠ 0 := fun q e => by rw [r2 q e]; omega
  refine (Try.keep_any g.h r1 (fun q e e2 => by have := r2 q e; omega) hl hn).mono fun e w' hK => ?_
  obtain ⟨ad, cap, own', hs', e1, e2, e3, e4, e5, e6⟩ := hK.ex
  refine ⟨ad, cap, hs', e1, e3, e4, ?_⟩
  obtain ⟨tag', t1, t2, t3⟩ := Wi.retag tag 5 (by decide) (fun q => (V k).ownBlock = some q) B w.heap.size w'.heap.size g.lt (fun q e => g.lt q (hnt q e)) own' (fun q e => e5 q e) e2.lt e6.size g.le
  have hb : ∀ q, tag q ≠ 0 → tag q ≠ 5 → (∀ e : (V k).ownBlock = some q, False) → w'.heap[q]? = w.heap[q]? := fun q n1 n2 n3 => e6.block q (g.lt q n1).2 (fun e => by rcases e with e | e; exact n2 e; exact n3 e)
  have hu : ∀ j, j ≠ 0 → j ≠ 6 + k → ∀ q, tag q = j → ¬ (V k).ownBlock = some q := fun j _ hj q e e2 => hj (by rw [← e]; exact r2 q e2)
  have tt : ∀ j, j ≠ 5 → j ≠ 0 → j ≠ 6 + k → ∀ q, tag q = j → tag' q = j := fun j j1 j2 j3 q e => by
    have := congrFun (t2 j j1 j2 (hu j j2 j3)) q
    simp only [eq_iff_iff] at this
    exact this.2 e
  refine ⟨⟨tag', ⟨t1, ?_, ?_, ?_, ?_, e2.more t3 (fun q e => (t1 q (by rw [e]; decide)).2)⟩, fun j hj hj3 => ?_, ?_, ?_, tt 9 (by decide) (by decide) (by omega) g3 g4, tt 9 (by decide) (by decide) (by omega) gw g5⟩, Wo.toBelow h.bel e6 (fun q e => ?_) g.le⟩
  · rw [t2 1 (by decide) (by decide) (hu 1 (by decide) (by omega))]
    exact g.a.keep (fun q e => hb q (by omega) (by omega) (hu 1 (by decide) (by omega) q e)) e6.size
  · rw [t2 2 (by decide) (by decide) (hu 2 (by decide) (by omega))]
    exact g.b.keep (fun q e => hb q (by omega) (by omega) (hu 2 (by decide) (by omega) q e)) e6.size
  · rw [t2 3 (by decide) (by decide) (hu 3 (by decide) (by omega))]
    exact g.x.keep (fun q e => hb q (by omega) (by omega) (hu 3 (by decide) (by omega) q e)) e6.size
  · rw [t2 4 (by decide) (by decide) (hu 4 (by decide) (by omega))]
    exact g.y.keep (fun q e => hb q (by omega) (by omega) (hu 4 (by decide) (by omega) q e)) e6.size
  · obtain ⟨j1, j2⟩ := g1 j (by omega) hj3
    exact ⟨Wi.row_heap j1 fun q e => hb q (by rw [j2 q e]; omega) (by rw [j2 q e]; omega) (hu (6 + j) (by omega) (by omega) q (j2 q e)), fun q e => tt (6 + j) (by omega) (by omega) (by omega) q (j2 q e)⟩
  · exact (hb g3 (by omega) (by omega) (hu 9 (by decide) (by omega) g3 g4)).trans g2
  · exact (hb gw (by omega) (by omega) (hu 9 (by decide) (by omega) gw g5)).trans g3'
  · rcases e with e | e
    · exact (g.lt q (by rw [e]; decide)).1
    · exact (g.lt q (hnt q e)).1
end Go.Proofs
