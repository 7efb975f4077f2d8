/-
  ALL THAT STANDS IN THE LAW: the world of the script, its holds, its disks and the document's, three rows that have come out; a tag for each block.
-/
import Derived.Test.YtnfpocpeglfdbaaDyH
import Derived.Test.YtnfpocpeglfdbaaDyM
namespace Go.Proofs
open Go.RowKit Go.Wi
/-- The tags behind a call that turns what bears the tag i (and what bears u), and lays o2 anew with the tag j. -/
theorem Wi.retag2 (tag : Nat → Nat) (i j : Nat) (u : Nat → Prop) (B s s' : Nat) (h0 : ∀ k, tag k ≠ 0 → B ≤ k ∧ k < s) (hu : ∀ k, u k → B ≤ k ∧ k < s) (o1 o2 : Nat → Prop) (h1 : ∀ k, o1 k → tag k = i ∨ u k ∨ s ≤ k) (h2 : ∀ k, o1 k → k < s') (h3 : ∀ k, o2 k → s ≤ k ∧ k < s' ∧ ¬ o1 k) (hs : s ≤ s') (hB : B ≤ s) :
    ∃ tag' : Nat → Nat, (∀ k, tag' k ≠ 0 → B ≤ k ∧ k < s') ∧ (∀ n, n ≠ i → n ≠ j → n ≠ 0 → (∀ k, tag k = n → ¬ u k) → (fun k => tag' k = n) = (fun k => tag k = n)) ∧ (∀ k, o1 k → tag' k = i) ∧ (∀ k, o2 k → tag' k = j) := by
  classical
  refine ⟨fun k => if k < s then (if u k then i else tag k) else if o1 k then i else if o2 k then j else 0, fun k hk => ?_, fun n hn hnj hn0 hnu => ?_, fun k hk => ?_, fun k hk => ?_⟩
  · simp only at hk
    by_cases a : k < s
    · rw [if_pos a] at hk
      by_cases b : u k
      · exact ⟨(hu k b).1, by omega⟩
      · rw [if_neg b] at hk
        exact ⟨(h0 k hk).1, by omega⟩
    · rw [if_neg a] at hk
      by_cases b : o1 k
      · exact ⟨by omega, h2 k b⟩
      · rw [if_neg b] at hk
        by_cases c : o2 k
        · exact ⟨by omega, (h3 k c).2.1⟩
        · rw [if_neg c] at hk; exact absurd rfl hk
  · funext k
    apply propext
    simp only
    by_cases a : k < s
    · rw [if_pos a]
      by_cases b : u k
      · rw [if_pos b]
        exact ⟨fun e => absurd e.symm hn, fun e => absurd b (hnu k e)⟩
      · rw [if_neg b]
    · rw [if_neg a]
      constructor
      · intro e
        by_cases b : o1 k
        · rw [if_pos b] at e; exact absurd e.symm hn
        · rw [if_neg b] at e
          by_cases c : o2 k
          · rw [if_pos c] at e; exact absurd e.symm hnj
          · rw [if_neg c] at e; exact absurd e.symm hn0
      · intro e
        have := (h0 k (by rw [e]; exact hn0)).2
        omega
  · simp only
    by_cases a : k < s
    · rw [if_pos a]
      by_cases b : u k
      · rw [if_pos b]
      · rw [if_neg b]
        rcases h1 k hk with e | e | e
        · exact e
        · exact absurd e b
        · omega
    · rw [if_neg a, if_pos hk]
  · have h4 := h3 k hk
    simp only
    rw [if_neg (by omega), if_neg h4.2.2, if_pos hk]
theorem Wi.Wo.of {own : Nat → Prop} {w w' : World} (h : Dk.Wo own w w') : Wo own w w' := ⟨h.os, h.tape, h.output, h.size, h.block⟩
theorem Try.Dsk.more {w : World} {own own2 : Nat → Prop} {x : Nat} {s : Dk.DS} (h : Try.Dsk w own x s) (h1 : ∀ k, own k → own2 k) (h2 : ∀ k, own2 k → k < w.heap.size) : Try.Dsk w own2 x s := by
  obtain ⟨l, t, V, hm, hf⟩ := h.ex
  exact ⟨⟨l, t, V, hm, fun k e => h1 k (hf k e)⟩, h2⟩
theorem Try.Rf.more {w : World} {own own2 : Nat → Prop} {x : Nat} {s : Dk.DS} (h : Try.Rf w own x s) (h1 : ∀ k, own k → own2 k) (h2 : ∀ k, own2 k → k < w.heap.size) : Try.Rf w own2 x s := by
  obtain ⟨Lv, Wv, a, b, c, hm, hf⟩ := h.ex
  exact ⟨⟨Lv, Wv, a, b, c, hm, fun k e => h1 k (hf k e)⟩, h2⟩
theorem Try.Hs.more {w : World} {own own2 : Nat → Prop} {kv : Value} {hs : List Dk.Hd} (h : Try.Hs w own kv hs) (h1 : ∀ k, own k → own2 k) (h2 : ∀ k, own2 k → k < w.heap.size) : Try.Hs w own2 kv hs :=
  ⟨h.row, fun k e => h1 k (h.ko k e), fun x hx => ⟨(h.each x hx).1, fun k e => ⟨h1 k ((h.each x hx).2 k e).1, ((h.each x hx).2 k e).2⟩⟩, h2⟩
/-- A disk, the document's, what each is. -/
structure Dk.Pq where
  d : Nat
  r : Nat
  s : Dk.DS
  t : Dk.DS
def Dk.pcs (ps : List Dk.Pq) : List Value := ps.flatMap fun p => [.pointer (some ⟨p.d, 0, none⟩), .pointer (some ⟨p.r, 0, none⟩)]
theorem Dk.pcs_app (a b : List Dk.Pq) : Dk.pcs (a ++ b) = Dk.pcs a ++ Dk.pcs b := by simp [Dk.pcs]
theorem Dk.pcs_at : ∀ (W : List Dk.Pq) (i : Nat) (p : Dk.Pq), W[i]? = some p → (Dk.pcs W)[i * 2]? = some (.pointer (some ⟨p.d, 0, none⟩)) ∧ (Dk.pcs W)[i * 2 + 1]? = some (.pointer (some ⟨p.r, 0, none⟩))
  | [], i, h, e => by simp at e
  | c :: r, 0, h, e => by simp at e; subst e; exact ⟨rfl, rfl⟩
  | c :: r, i + 1, h, e => by
    have := Dk.pcs_at r i h (by simpa using e)
    have e1 : Dk.pcs (c :: r) = .pointer (some ⟨c.d, 0, none⟩) :: .pointer (some ⟨c.r, 0, none⟩) :: Dk.pcs r := rfl
    rw [e1, show (i + 1) * 2 = i * 2 + 1 + 1 by omega]
    exact this
theorem Dk.pcs_set (ps : List Dk.Pq) (i : Nat) (p q : Dk.Pq) (h : ps[i]? = some p) (hd : q.d = p.d) (hr : q.r = p.r) : Dk.pcs (ps.set i q) = Dk.pcs ps := by
  induction ps generalizing i with
  | nil => rfl
  | cons c r ih =>
    cases i with
    | zero =>
      simp at h
      subst h
      show [Value.pointer (some ⟨q.d, 0, none⟩), .pointer (some ⟨q.r, 0, none⟩)] ++ Dk.pcs r = [Value.pointer (some ⟨c.d, 0, none⟩), .pointer (some ⟨c.r, 0, none⟩)] ++ Dk.pcs r
      rw [hd, hr]
    | succ i =>
      show _ ++ Dk.pcs (r.set i q) = _ ++ Dk.pcs r
      rw [ih i (by simpa using h)]
/-- Blocks that stay as they are. -/
abbrev Dk.Gs := List (Nat × Obj)
/-- All of it, by tags. -/
structure Try.Zt (B : Nat) (tag : Nat → Nat) (w : World) (wb : Nat) (G : Dk.Gs) (lv kv : Value) (ps : List Dk.Pq) (hs : List Dk.Hd) (rv : Nat → Value) (rb : Nat → List UInt8) : Prop where
  lt : ∀ k, tag k ≠ 0 → B ≤ k ∧ k < w.heap.size
  bl : w.heap[wb]? = some (.cells #[lv, kv] 28 (0, 0))
  tw : tag wb = 1
  lr : w.ownsRow 0 44 2 lv ps.length (Dk.pcs ps)
  lo : ∀ k, lv.ownBlock = some k → tag k = 2
  hh : Try.Hs w (fun k => tag k = 3) kv hs
  rows : ∀ j, j < 3 → w.ownsRow 0 5 1 (rv j) (rb j).length (Lib.byteCells (rb j)) ∧ ∀ k, (rv j).ownBlock = some k → tag k = 4 + j
  each : ∀ i p, ps[i]? = some p → Try.Dsk w (fun k => tag k = 10 + 2 * i) p.d p.s ∧ Try.Rf w (fun k => tag k = 11 + 2 * i) p.r p.t
  gs : ∀ x, x ∈ G → w.heap[x.1]? = some x.2 ∧ tag x.1 = 9
structure Try.Zw (B : Nat) (w0 w : World) (wb : Nat) (G : Dk.Gs) (ps : List Dk.Pq) (H : Nat) (rv : Nat → Value) (rb : Nat → List UInt8) : Prop where
  ex : ∃ tag lv kv hs, Try.Zt B tag w wb G lv kv ps hs rv rb ∧ hs.length = H ∧ ∀ x ∈ hs, x.n ≤ 1000000000 ∧ x.m ≤ 1000000000
  bel : Below B w0 w
theorem Try.Zt.le {B : Nat} {tag : Nat → Nat} {w : World} {wb : Nat} {G : Dk.Gs} {lv kv : Value} {ps : List Dk.Pq} {hs : List Dk.Hd} {rv : Nat → Value} {rb : Nat → List UInt8} (h : Try.Zt B tag w wb G lv kv ps hs rv rb) : B ≤ w.heap.size := by
  have := h.lt wb (by rw [h.tw]; decide)
  omega
theorem Try.Zt.others {B : Nat} {tag : Nat → Nat} {w : World} {wb : Nat} {G : Dk.Gs} {lv kv : Value} {ps : List Dk.Pq} {hs : List Dk.Hd} {rv : Nat → Value} {rb : Nat → List UInt8} (h : Try.Zt B tag w wb G lv kv ps hs rv rb) (I : Nat → Prop) {tag' : Nat → Nat} {w' : World} (ht : ∀ j, ¬ I j → j ≠ 0 → (fun k => tag' k = j) = (fun k => tag k = j)) (hb : ∀ k, ¬ I (tag k) → tag k ≠ 0 → w'.heap[k]? = w.heap[k]?) (hs' : w.heap.size ≤ w'.heap.size) :
    (¬ I 1 → w'.heap[wb]? = some (.cells #[lv, kv] 28 (0, 0)) ∧ tag' wb = 1) ∧ (¬ I 2 → w'.ownsRow 0 44 2 lv ps.length (Dk.pcs ps) ∧ ∀ k, lv.ownBlock = some k → tag' k = 2) ∧ (¬ I 3 → Try.Hs w' (fun k => tag' k = 3) kv hs) ∧ (∀ j, j < 3 → ¬ I (4 + j) → w'.ownsRow 0 5 1 (rv j) (rb j).length (Lib.byteCells (rb j)) ∧ ∀ k, (rv j).ownBlock = some k → tag' k = 4 + j) ∧ (∀ i p, ps[i]? = some p → ¬ I (10 + 2 * i) → Try.Dsk w' (fun k => tag' k = 10 + 2 * i) p.d p.s) ∧ (∀ i p, ps[i]? = some p → ¬ I (11 + 2 * i) → Try.Rf w' (fun k => tag' k = 11 + 2 * i) p.r p.t) ∧ (¬ I 9 → ∀ x, x ∈ G → w'.heap[x.1]? = some x.2 ∧ tag' x.1 = 9) := by
  have hk : ∀ j, ¬ I j → j ≠ 0 → ∀ k, tag k = j → w'.heap[k]? = w.heap[k]? := fun j h1 h2 k e => hb k (by rw [e]; exact h1) (by rw [e]; exact h2)
  have htt : ∀ j, ¬ I j → j ≠ 0 → ∀ k, tag k = j → tag' k = j := fun j h1 h2 k e => by
    have h3 : (tag' k = j) = (tag k = j) := congrFun (ht j h1 h2) k
    rw [h3]; exact e
  refine ⟨fun hi => ⟨(hk 1 hi (by decide) wb h.tw).trans h.bl, htt 1 hi (by decide) wb h.tw⟩, fun hi => ⟨Dk.row_heap h.lr fun k e => hk 2 hi (by decide) k (h.lo k e), fun k e => htt 2 hi (by decide) k (h.lo k e)⟩, fun hi => ?_, fun j hj hi => ⟨Dk.row_heap (h.rows j hj).1 fun k e => hk (4 + j) hi (by omega) k ((h.rows j hj).2 k e), fun k e => htt (4 + j) hi (by omega) k ((h.rows j hj).2 k e)⟩, fun i p hp hi => ?_, fun i p hp hi => ?_, fun hi x hx => ⟨(hk 9 hi (by decide) x.1 (h.gs x hx).2).trans (h.gs x hx).1, htt 9 hi (by decide) x.1 (h.gs x hx).2⟩⟩
  · rw [ht 3 hi (by decide)]; exact h.hh.keep (hk 3 hi (by decide)) hs'
  · rw [ht (10 + 2 * i) hi (by omega)]; exact (h.each i p hp).1.keep (hk (10 + 2 * i) hi (by omega)) hs'
  · rw [ht (11 + 2 * i) hi (by omega)]; exact (h.each i p hp).2.keep (hk (11 + 2 * i) hi (by omega)) hs'
theorem Try.Zw.below {B : Nat} {w0 w w' : World} {wb : Nat} {G : Dk.Gs} {ps : List Dk.Pq} {H : Nat} {rv : Nat → Value} {rb : Nat → List UInt8} (h : Try.Zw B w0 w wb G ps H rv rb) (g : Below w.heap.size w w') : Try.Zw B w0 w' wb G ps H rv rb := by
  obtain ⟨tag, lv, kv, hs, h1, h2, h3⟩ := h.ex
  obtain ⟨o1, o2, o3, o4, o5, o6, o7⟩ := h1.others (fun _ => False) (tag' := tag) (w' := w') (fun _ _ _ => rfl) (fun k _ e => g.block k (h1.lt k e).2) g.size
  exact ⟨⟨tag, lv, kv, hs, ⟨fun k e => ⟨(h1.lt k e).1, Nat.lt_of_lt_of_le (h1.lt k e).2 g.size⟩, (o1 id).1, (o1 id).2, (o2 id).1, (o2 id).2, o3 id, fun j hj => o4 j hj id, fun i p hp => ⟨o5 i p hp id, o6 i p hp id⟩, o7 id⟩, h2, h3⟩, h.bel.trans (g.mono h1.le)⟩
/-- A call on the i-th disk. -/
theorem Try.Zw.dcall {B : Nat} {w0 w : World} {wb : Nat} {G : Dk.Gs} {ps : List Dk.Pq} {H : Nat} {rv : Nat → Value} {rb : Nat → List UInt8} (h : Try.Zw B w0 w wb G ps H rv rb) {i : Nat} {p : Dk.Pq} (hp : ps[i]? = some p) {s' : Dk.DS} {f : FuncId} {args : Array Value} {R : Ending → Prop}
    (hc : ∀ l t V, Try.Mem w p.d l t V p.s (Dk.lats p.s.n p.s.W) → Calls Try.prog f args w fun e w' => R e ∧ Try.Left w w' p.d l t V s') : Calls Try.prog f args w fun e w' => R e ∧ Try.Zw B w0 w' wb G (ps.set i { p with s := s' }) H rv rb := by
  obtain ⟨tag, lv, kv, hs, g, g2, g3⟩ := h.ex
  obtain ⟨hD, -⟩ := g.each i p hp
  obtain ⟨l, t, V, hm, hf⟩ := hD.ex
  refine (hc l t V hm).mono fun e w' ⟨r1, r2⟩ => ⟨r1, ?_⟩
  obtain ⟨hd, hw⟩ := Try.Dsk.step hD.lt hf r2
  have hw := Wi.Wo.of hw
  have hsz := hw.size
  obtain ⟨tag', t1, t2, t3, -⟩ := Wi.retag2 tag (10 + 2 * i) (10 + 2 * i) (fun _ => False) B w.heap.size w'.heap.size g.lt (fun _ e => e.elim) _ (fun _ => False) (fun k e => e.elim .inl fun e => .inr (.inr e.1)) hd.lt (fun _ e => e.elim) hsz g.le
  obtain ⟨o1, o2, o3, o4, o5, o6, o7⟩ := g.others (fun j => j = 10 + 2 * i) (tag' := tag') (w' := w') (fun j h1 h2 => t2 j h1 h1 h2 fun _ _ e => e) (fun k h1 h2 => hw.block k (g.lt k h2).2 h1) hsz
  refine ⟨⟨tag', lv, kv, hs, ⟨t1, (o1 (by omega)).1, (o1 (by omega)).2, ?_, (o2 (by omega)).2, o3 (by omega), fun j hj => o4 j hj (by omega), fun k q hq => ?_, o7 (by omega)⟩, g2, g3⟩, Wo.toBelow h.bel hw (fun k e => (g.lt k (by rw [show tag k = 10 + 2 * i from e]; omega)).1) g.le⟩
  · rw [List.length_set, Dk.pcs_set ps i p { p with s := s' } hp rfl rfl]; exact (o2 (by omega)).1
  · rw [List.getElem?_set] at hq
    by_cases hki : i = k
    · subst hki
      rw [if_pos rfl] at hq
      split at hq
      · cases hq
        exact ⟨hd.more t3 (fun k e => (t1 k (by rw [show tag' k = 10 + 2 * i from e]; omega)).2), o6 i p hp (by omega)⟩
      · cases hq
    · rw [if_neg hki] at hq
      exact ⟨o5 k q hq (by omega), o6 k q hq (by omega)⟩
/-- A call on the document's i-th disk. -/
theorem Try.Zw.rcall {B : Nat} {w0 w : World} {wb : Nat} {G : Dk.Gs} {ps : List Dk.Pq} {H : Nat} {rv : Nat → Value} {rb : Nat → List UInt8} (h : Try.Zw B w0 w wb G ps H rv rb) {i : Nat} {p : Dk.Pq} (hp : ps[i]? = some p) {s' : Dk.DS} {f : FuncId} {args : Array Value} {R : Ending → Prop}
    (hc : ∀ Lv Wv left k t, Try.Rfm w p.r Lv Wv left k t p.t → Calls Try.prog f args w fun e w' => R e ∧ ∃ Lv' Wv' left' k' t', Try.Rfm w' p.r Lv' Wv' left' k' t' s' ∧ Dk.Wo (Dk.rfoot p.r Lv Wv) w w' ∧ ∀ j, Dk.rfoot p.r Lv' Wv' j → Dk.rfoot p.r Lv Wv j ∨ w.heap.size ≤ j) : Calls Try.prog f args w fun e w' => R e ∧ Try.Zw B w0 w' wb G (ps.set i { p with t := s' }) H rv rb := by
  obtain ⟨tag, lv, kv, hs, g, g2, g3⟩ := h.ex
  obtain ⟨-, hD⟩ := g.each i p hp
  obtain ⟨Lv, Wv, left, k0, t0, hm, hf⟩ := hD.ex
  refine (hc Lv Wv left k0 t0 hm).mono fun e w' ⟨r1, Lv', Wv', left', k', t', hm', hw, hf'⟩ => ⟨r1, ?_⟩
  have hw := (Wi.Wo.of hw).mono hf
  have hsz := hw.size
  obtain ⟨tag', t1, t2, t3, -⟩ := Wi.retag2 tag (11 + 2 * i) (11 + 2 * i) (fun _ => False) B w.heap.size w'.heap.size g.lt (fun _ e => e.elim) (Dk.rfoot p.r Lv' Wv') (fun _ => False) (fun k e => (hf' k e).elim (fun e => .inl (hf k e)) fun e => .inr (.inr e)) hm'.foot_lt (fun _ e => e.elim) hsz g.le
  obtain ⟨o1, o2, o3, o4, o5, o6, o7⟩ := g.others (fun j => j = 11 + 2 * i) (tag' := tag') (w' := w') (fun j h1 h2 => t2 j h1 h1 h2 fun _ _ e => e) (fun k h1 h2 => hw.block k (g.lt k h2).2 h1) hsz
  refine ⟨⟨tag', lv, kv, hs, ⟨t1, (o1 (by omega)).1, (o1 (by omega)).2, ?_, (o2 (by omega)).2, o3 (by omega), fun j hj => o4 j hj (by omega), fun k q hq => ?_, o7 (by omega)⟩, g2, g3⟩, Wo.toBelow h.bel hw (fun k e => (g.lt k (by rw [show tag k = 11 + 2 * i from e]; omega)).1) g.le⟩
  · rw [List.length_set, Dk.pcs_set ps i p { p with t := s' } hp rfl rfl]; exact (o2 (by omega)).1
  · rw [List.getElem?_set] at hq
    by_cases hki : i = k
    · subst hki
      rw [if_pos rfl] at hq
      split at hq
      · cases hq
        exact ⟨o5 i p hp (by omega), ⟨⟨Lv', Wv', left', k', t', hm', t3⟩, fun k e => (t1 k (by rw [show tag' k = 11 + 2 * i from e]; omega)).2⟩⟩
      · cases hq
    · rw [if_neg hki] at hq
      exact ⟨o5 k q hq (by omega), o6 k q hq (by omega)⟩
/-- One place of a function is another. -/
def Dk.upd {α : Type} (f : Nat → α) (j : Nat) (v : α) : Nat → α := fun m => if m = j then v else f m
/-- A row that has come out. -/
theorem Try.Zw.row {B : Nat} {w0 w w' : World} {wb : Nat} {G : Dk.Gs} {ps : List Dk.Pq} {H : Nat} {rv : Nat → Value} {rb : Nat → List UInt8} (h : Try.Zw B w0 w wb G ps H rv rb) (g : Below w.heap.size w w') {V : Value} {b : List UInt8} (hr : w'.ownsRow w.heap.size 5 1 V b.length (Lib.byteCells b)) (j : Nat) (hj : j < 3) :
    Try.Zw B w0 w' wb G ps H (Dk.upd rv j V) (Dk.upd rb j b) := by
  obtain ⟨tag, lv, kv, hs, h1, h2, h3⟩ := h.ex
  obtain ⟨tag', t1, t2, -, t4⟩ := Wi.retag2 tag (4 + j) (4 + j) (fun _ => False) B w.heap.size w'.heap.size h1.lt (fun _ e => e.elim) (fun _ => False) (fun k => V.ownBlock = some k) (fun _ e => e.elim) (fun _ e => e.elim) (fun k e => ⟨(hr.lt k e).1, (hr.lt k e).2, id⟩) g.size h1.le
  obtain ⟨o1, o2, o3, o4, o5, o6, o7⟩ := h1.others (fun m => m = 4 + j) (tag' := tag') (w' := w') (fun m e1 e2 => t2 m e1 e1 e2 fun _ _ e => e) (fun k _ e => g.block k (h1.lt k e).2) g.size
  refine ⟨⟨tag', lv, kv, hs, ⟨t1, (o1 (by omega)).1, (o1 (by omega)).2, (o2 (by omega)).1, (o2 (by omega)).2, o3 (by omega), fun m hm => ?_, fun i p hp => ⟨o5 i p hp (by omega), o6 i p hp (by omega)⟩, o7 (by omega)⟩, h2, h3⟩, h.bel.trans (g.mono h1.le)⟩
  by_cases e : m = j
  · subst e
    simp only [Dk.upd, if_true]
    exact ⟨⟨hr.1, hr.2.elim Or.inl fun ⟨g, c, cur, q1, q2, q3⟩ => Or.inr ⟨g, c, cur, q1, Nat.zero_le _, q3⟩⟩, t4⟩
  · simp only [Dk.upd, if_neg e]
    exact o4 m hm (by omega)
/-- 'keep' of a row that has come out. -/
theorem Try.Zw.keeps {B : Nat} {w0 w : World} {wb : Nat} {G : Dk.Gs} {ps : List Dk.Pq} {H : Nat} {rv : Nat → Value} {rb : Nat → List UInt8} (h : Try.Zw B w0 w wb G ps H rv rb) (j : Nat) (hj : j < 3) (hH : H ≤ 400000000) (hn : (rb j).length ≤ 2000000) {V : Value} (hV : rv j = V) :
    Calls Try.prog 27 #[.pointer (some ⟨wb, 0, none⟩), V] w fun e w' => (∃ v, e = .returned v) ∧ Try.Zw B w0 w' wb G ps (H + 4) (Dk.upd rv j (.slice none 0 0)) (Dk.upd rb j []) := by
  subst hV
  obtain ⟨tag, lv, kv, hs, g, g2, g3⟩ := h.ex
  obtain ⟨hrow, hrt⟩ := g.rows j hj
  refine (Try.keepW_any g.hh g.bl (by show ¬ tag wb = 3; rw [g.tw]; decide) hrow (fun k e => ⟨by show ¬ tag k = 3; rw [hrt k e]; omega, fun e2 => by have h1 := hrt k e; rw [e2, g.tw] at h1; omega⟩) (by omega) hn).mono fun e w' ⟨r1, hk⟩ => ⟨r1, ?_⟩
  obtain ⟨own', kv', hs', k1, k2, k3, k4, k5, hw⟩ := hk.ex
  have hsz := hw.size
  obtain ⟨tag', t1, t2, t3, -⟩ := Wi.retag2 tag 3 3 (fun k => (rv j).ownBlock = some k) B w.heap.size w'.heap.size g.lt (fun k e => g.lt k (by rw [hrt k e]; omega)) own' (fun _ => False) k5 k2.lt (fun _ e => e.elim) hsz g.le
  obtain ⟨-, o2, -, o4, o5, o6, o7⟩ := g.others (fun m => m = 1 ∨ m = 3 ∨ m = 4 + j) (tag' := tag') (w' := w') (fun m e1 e2 => t2 m (fun e => e1 (.inr (.inl e))) (fun e => e1 (.inr (.inl e))) e2 fun k e e3 => e1 (.inr (.inr (by rw [← e]; exact hrt k e3)))) (fun k e1 e2 => hw.block k (g.lt k e2).2 (fun e => by
    rcases e with e | e | e
    · exact e1 (.inr (.inl e))
    · exact e1 (.inr (.inr (hrt k e)))
    · exact e1 (.inl (by rw [e]; exact g.tw)))) hsz
  have htw : tag' wb = 1 := by
    have h3 : (tag' wb = 1) = (tag wb = 1) := congrFun (t2 1 (by decide) (by decide) (by decide) fun k e e3 => by have := hrt k e3; omega) wb
    rw [h3]; exact g.tw
  refine ⟨⟨tag', lv, kv', hs', ⟨t1, k1, htw, (o2 (by omega)).1, (o2 (by omega)).2, k2.more t3 (fun k e => (t1 k (by rw [show tag' k = 3 from e]; decide)).2), fun m hm => ?_, fun i p hp => ⟨o5 i p hp (by omega), o6 i p hp (by omega)⟩, o7 (by omega)⟩, by omega, fun x hx => ?_⟩, Wo.toBelow h.bel hw (fun k e => ?_) g.le⟩
  · by_cases e : m = j
    · subst e
      simp only [Dk.upd, if_true]
      exact ⟨World.ownsRow_nil _ _ _ _, fun k e => by cases e⟩
    · simp only [Dk.upd, if_neg e]
      exact o4 m hm (by omega)
  · rcases k4 x hx with e | ⟨e1, e2⟩
    · exact g3 x e
    · exact ⟨by omega, by omega⟩
  · rcases e with e | e | e
    · exact (g.lt k (by rw [show tag k = 3 from e]; decide)).1
    · exact (g.lt k (by rw [hrt k e]; omega)).1
    · exact (g.lt k (by rw [e, g.tw]; decide)).1
/-- A block that stays as it is. -/
theorem Try.Zw.guest {B : Nat} {w0 w w' : World} {wb : Nat} {G : Dk.Gs} {ps : List Dk.Pq} {H : Nat} {rv : Nat → Value} {rb : Nat → List UInt8} (h : Try.Zw B w0 w wb G ps H rv rb) (g : Below w.heap.size w w') {k : Nat} {O : Obj} (hx : w'.heap[k]? = some O) (hk : w.heap.size ≤ k) : Try.Zw B w0 w' wb ((k, O) :: G) ps H rv rb := by
  obtain ⟨tag, lv, kv, hs, h1, h2, h3⟩ := h.ex
  obtain ⟨tag', t1, t2, t3, t4⟩ := Wi.retag2 tag 9 9 (fun _ => False) B w.heap.size w'.heap.size h1.lt (fun _ e => e.elim) (fun m => tag m = 9) (fun m => m = k) (fun _ e => .inl e) (fun m e => Nat.lt_of_lt_of_le (h1.lt m (by rw [e]; decide)).2 g.size) (fun m e => ⟨by omega, by rw [e]; exact Dk.block_lt hx, fun e2 => by have := (h1.lt m (by rw [e2]; decide)).2; omega⟩) g.size h1.le
  obtain ⟨o1, o2, o3, o4, o5, o6, -⟩ := h1.others (fun m => m = 9) (tag' := tag') (w' := w') (fun m e1 e2 => t2 m e1 e1 e2 fun _ _ e => e) (fun m _ e => g.block m (h1.lt m e).2) g.size
  refine ⟨⟨tag', lv, kv, hs, ⟨t1, (o1 (by omega)).1, (o1 (by omega)).2, (o2 (by omega)).1, (o2 (by omega)).2, o3 (by omega), fun j hj => o4 j hj (by omega), fun i p hp => ⟨o5 i p hp (by omega), o6 i p hp (by omega)⟩, fun x hx2 => ?_⟩, h2, h3⟩, h.bel.trans (g.mono h1.le)⟩
  rcases List.mem_cons.1 hx2 with e | e
  · subst e
    exact ⟨hx, t4 k rfl⟩
  · have h4 := h1.gs x e
    exact ⟨(g.block x.1 (h1.lt x.1 (by rw [h4.2]; decide)).2).trans h4.1, t3 x.1 h4.2⟩
theorem Try.Zw.at {B : Nat} {w0 w : World} {wb : Nat} {G : Dk.Gs} {ps : List Dk.Pq} {H : Nat} {rv : Nat → Value} {rb : Nat → List UInt8} (h : Try.Zw B w0 w wb G ps H rv rb) {x : Nat × Obj} (hx : x ∈ G) : w.heap[x.1]? = some x.2 := by
  obtain ⟨tag, lv, kv, hs, h1, -⟩ := h.ex
  exact (h1.gs x hx).1
theorem Try.Zw.less {B : Nat} {w0 w : World} {wb : Nat} {G G' : Dk.Gs} {ps : List Dk.Pq} {H : Nat} {rv : Nat → Value} {rb : Nat → List UInt8} (h : Try.Zw B w0 w wb G ps H rv rb) (hg : ∀ x, x ∈ G' → x ∈ G) : Try.Zw B w0 w wb G' ps H rv rb := by
  obtain ⟨tag, lv, kv, hs, h1, h2, h3⟩ := h.ex
  exact ⟨⟨tag, lv, kv, hs, ⟨h1.lt, h1.bl, h1.tw, h1.lr, h1.lo, h1.hh, h1.rows, h1.each, fun x e => h1.gs x (hg x e)⟩, h2, h3⟩, h.bel⟩
theorem Try.Zw.looks {B : Nat} {w0 w : World} {wb : Nat} {G : Dk.Gs} {ps : List Dk.Pq} {H : Nat} {rv : Nat → Value} {rb : Nat → List UInt8} (h : Try.Zw B w0 w wb G ps H rv rb) (hH : H ≤ 1000000000) :
    Calls Try.prog 6 #[.pointer (some ⟨wb, 0, none⟩)] w fun e w' => e = .returned (.bool true) ∧ Try.Zw B w0 w' wb G ps H rv rb := by
  obtain ⟨tag, lv, kv, hs, g, g2, g3⟩ := h.ex
  exact (Try.looksW_any g.hh g.bl (by omega) g3).mono fun _ _ ⟨e1, e2⟩ => ⟨e1, h.below e2⟩
end Go.Proofs
