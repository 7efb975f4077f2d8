/-
  ALL THAT STANDS IN THE LAW: two readers, two of the document's, the lists that are kept, two rows beside; a tag for each block.
-/
import Derived.Test.YtghpbagmpgphfaaWqO
namespace Go.Proofs
open Go.RowKit Go.Wi
theorem Try.Rd.more {w : World} {own own2 : Nat → Prop} {x : Nat} {s : Rs} (h : Try.Rd w own x s) (h1 : ∀ k, own k → own2 k) (h2 : ∀ k, own2 k → k < w.heap.size) : Try.Rd w own2 x s := by
  obtain ⟨V, fv, g1, g2, g3, g4, g5⟩ := h.ex
  refine ⟨⟨V, fv, g1, g2, g3, fun k e => h1 k (g4 k e), ?_⟩, h1 x h.ox, h2, h.inn, h.len⟩
  rcases g5 with g5 | ⟨a, y, e1, e2, e3, e4, e5⟩
  · exact .inl g5
  · exact .inr ⟨a, y, e1, e2, e3, e4, h1 y e5⟩
theorem Try.Xd.more {w : World} {own own2 : Nat → Prop} {x : Nat} {s : Rs} (h : Try.Xd w own x s) (h1 : ∀ k, own k → own2 k) (h2 : ∀ k, own2 k → k < w.heap.size) : Try.Xd w own2 x s := by
  obtain ⟨V, g1, g2, g3, g4⟩ := h.ex
  exact ⟨⟨V, g1, g2, g3, fun k e => h1 k (g4 k e)⟩, h1 x h.ox, h2, h.inn, h.len⟩
theorem Try.KL.more {w : World} {own own2 : Nat → Prop} {b N : Nat} (h : Try.KL w own b N) (h1 : ∀ k, own k → own2 k) (h2 : ∀ k, own2 k → k < w.heap.size) : Try.KL w own2 b N := by
  obtain ⟨lv, hs, mv, wv, ws, qv, hK, g1, g2, g3, g4, g5, g6⟩ := h.ex
  exact ⟨lv, hs, mv, wv, ws, qv, hK.more h1 h2, g1, g2, fun k e => ⟨h1 k (g3 k e).1, (g3 k e).2⟩, g4, g5, fun k e => ⟨h1 k (g6 k e).1, (g6 k e).2⟩⟩
/-- The tags behind a call that turns what bears the tag i (and what bears u), and lays o2 anew with the tag j. -/
theorem Wi.retag2 (tag : Nat → Nat) (i j : Nat) (u : Nat → Prop) (B s s' : Nat) (h0 : ∀ k, tag k ≠ 0 → B ≤ k ∧ k < s) (hu : ∀ k, u k → B ≤ k ∧ k < s) (o1 o2 : Nat → Prop) (h1 : ∀ k, o1 k → tag k = i ∨ u k ∨ s ≤ k) (h2 : ∀ k, o1 k → k < s') (h3 : ∀ k, o2 k → s ≤ k ∧ k < s' ∧ ¬ o1 k) (hs : s ≤ s') (hB : B ≤ s) :
    ∃ tag' : Nat → Nat, (∀ k, tag' k ≠ 0 → B ≤ k ∧ k < s') ∧ (∀ n, n ≠ i → n ≠ j → n ≠ 0 → (∀ k, tag k = n → ¬ u k) → (fun k => tag' k = n) = (fun k => tag k = n)) ∧ (∀ k, o1 k → tag' k = i) ∧ (∀ k, o2 k → tag' k = j) := by
  classical
  refine ⟨fun k => if k < s then (if u k then i else tag k) else if o1 k then i else if o2 k then j else 0, fun k hk => ?_, fun n hn hnj hn0 hnu => ?_, fun k hk => ?_, fun k hk => ?_⟩
  · simp only at hk
    by_cases a : k < s
    · rw [if_pos a] at hk
      by_cases b : u k
      · exact ⟨(hu k b).1, by omega⟩
      · rw [if_neg b] at hk
        exact ⟨(h0 k hk).1, by omega⟩
    · rw [if_neg a] at hk
      by_cases b : o1 k
      · exact ⟨by omega, h2 k b⟩
      · rw [if_neg b] at hk
        by_cases c : o2 k
        · exact ⟨by omega, (h3 k c).2.1⟩
        · rw [if_neg c] at hk; exact absurd rfl hk
  · funext k
    apply propext
    simp only
    by_cases a : k < s
    · rw [if_pos a]
      by_cases b : u k
      · rw [if_pos b]
        exact ⟨fun e => absurd e.symm hn, fun e => absurd b (hnu k e)⟩
      · rw [if_neg b]
    · rw [if_neg a]
      constructor
      · intro e
        by_cases b : o1 k
        · rw [if_pos b] at e; exact absurd e.symm hn
        · rw [if_neg b] at e
          by_cases c : o2 k
          · rw [if_pos c] at e; exact absurd e.symm hnj
          · rw [if_neg c] at e; exact absurd e.symm hn0
      · intro e
        have := (h0 k (by rw [e]; exact hn0)).2
        omega
  · simp only
    by_cases a : k < s
    · rw [if_pos a]
      by_cases b : u k
      · rw [if_pos b]
      · rw [if_neg b]
        rcases h1 k hk with e | e | e
        · exact e
        · exact absurd e b
        · omega
    · rw [if_neg a, if_pos hk]
  · have h4 := h3 k hk
    simp only
    rw [if_neg (by omega), if_neg h4.2.2, if_pos hk]
/-- All of them, by tags. -/
structure Try.Zt (B : Nat) (tag : Nat → Nat) (w : World) (r x q y b : Nat) (s1 s2 s3 s4 : Rs) (N : Nat) (v : Value) (li : List Int) (v2 : Value) (li2 : List Int) : Prop where
  lt : ∀ k, tag k ≠ 0 → B ≤ k ∧ k < w.heap.size
  r : Try.Rd w (fun k => tag k = 1) r s1
  x : Try.Xd w (fun k => tag k = 2) x s2
  q : Try.Rd w (fun k => tag k = 3) q s3
  y : Try.Xd w (fun k => tag k = 4) y s4
  k : Try.KL w (fun k => tag k = 5) b N
  row : w.ownsRow 0 2 1 v li.length (Wi.ics li) ∧ ∀ k, v.ownBlock = some k → tag k = 6
  row2 : w.ownsRow 0 2 1 v2 li2.length (Wi.ics li2) ∧ ∀ k, v2.ownBlock = some k → tag k = 7
structure Try.Zw (B : Nat) (w0 w : World) (r x q y b : Nat) (s1 s2 s3 s4 : Rs) (N : Nat) (v : Value) (li : List Int) (v2 : Value) (li2 : List Int) : Prop where
  ex : ∃ tag, Try.Zt B tag w r x q y b s1 s2 s3 s4 N v li v2 li2
  bel : Below B w0 w
theorem Try.Zt.others {B : Nat} {tag : Nat → Nat} {w : World} {r x q y b : Nat} {s1 s2 s3 s4 : Rs} {N : Nat} {v : Value} {li : List Int} {v2 : Value} {li2 : List Int} (h : Try.Zt B tag w r x q y b s1 s2 s3 s4 N v li v2 li2) (I : Nat → Prop) {tag' : Nat → Nat} {w' : World} (ht : ∀ j, ¬ I j → j ≠ 0 → (fun k => tag' k = j) = (fun k => tag k = j)) (hb : ∀ k, ¬ I (tag k) → tag k ≠ 0 → w'.heap[k]? = w.heap[k]?) (hs : w.heap.size ≤ w'.heap.size) :
    (¬ I 1 → Try.Rd w' (fun k => tag' k = 1) r s1) ∧ (¬ I 2 → Try.Xd w' (fun k => tag' k = 2) x s2) ∧ (¬ I 3 → Try.Rd w' (fun k => tag' k = 3) q s3) ∧ (¬ I 4 → Try.Xd w' (fun k => tag' k = 4) y s4) ∧ (¬ I 5 → Try.KL w' (fun k => tag' k = 5) b N) ∧ (¬ I 6 → w'.ownsRow 0 2 1 v li.length (Wi.ics li) ∧ ∀ k, v.ownBlock = some k → tag' k = 6) ∧ (¬ I 7 → w'.ownsRow 0 2 1 v2 li2.length (Wi.ics li2) ∧ ∀ k, v2.ownBlock = some k → tag' k = 7) := by
  have hk : ∀ j, ¬ I j → j ≠ 0 → ∀ k, tag k = j → w'.heap[k]? = w.heap[k]? := fun j h1 h2 k e => hb k (by rw [e]; exact h1) (by rw [e]; exact h2)
  refine ⟨fun hi => ?_, fun hi => ?_, fun hi => ?_, fun hi => ?_, fun hi => ?_, fun hi => ?_, fun hi => ?_⟩
  · rw [ht 1 hi (by decide)]; exact h.r.keep (hk 1 hi (by decide)) hs
  · rw [ht 2 hi (by decide)]; exact h.x.keep (hk 2 hi (by decide)) hs
  · rw [ht 3 hi (by decide)]; exact h.q.keep (hk 3 hi (by decide)) hs
  · rw [ht 4 hi (by decide)]; exact h.y.keep (hk 4 hi (by decide)) hs
  · rw [ht 5 hi (by decide)]; exact h.k.keep (hk 5 hi (by decide)) hs
  · exact ⟨Wi.row_heap h.row.1 fun k e => hk 6 hi (by decide) k (h.row.2 k e), fun k e => by rw [show (tag' k = 6) = (tag k = 6) from congrFun (ht 6 hi (by decide)) k]; exact h.row.2 k e⟩
  · exact ⟨Wi.row_heap h.row2.1 fun k e => hk 7 hi (by decide) k (h.row2.2 k e), fun k e => by rw [show (tag' k = 7) = (tag k = 7) from congrFun (ht 7 hi (by decide)) k]; exact h.row2.2 k e⟩
theorem Try.Zt.le {B : Nat} {tag : Nat → Nat} {w : World} {r x q y b : Nat} {s1 s2 s3 s4 : Rs} {N : Nat} {v : Value} {li : List Int} {v2 : Value} {li2 : List Int} (h : Try.Zt B tag w r x q y b s1 s2 s3 s4 N v li v2 li2) : B ≤ w.heap.size := by
  have := h.lt r (by rw [show tag r = 1 from h.r.ox]; decide)
  omega
/-- What others make anew changes none of them. -/
theorem Try.Zw.below {B : Nat} {w0 w w' : World} {r x q y b : Nat} {s1 s2 s3 s4 : Rs} {N : Nat} {v : Value} {li : List Int} {v2 : Value} {li2 : List Int} (h : Try.Zw B w0 w r x q y b s1 s2 s3 s4 N v li v2 li2) (g : Below w.heap.size w w') : Try.Zw B w0 w' r x q y b s1 s2 s3 s4 N v li v2 li2 := by
  obtain ⟨tag, h1⟩ := h.ex
  obtain ⟨o1, o2, o3, o4, o5, o6, o7⟩ := h1.others (fun _ => False) (tag' := tag) (w' := w') (fun _ _ _ => rfl) (fun k _ e => g.block k (h1.lt k e).2) g.size
  exact ⟨⟨tag, fun k e => ⟨(h1.lt k e).1, Nat.lt_of_lt_of_le (h1.lt k e).2 g.size⟩, o1 id, o2 id, o3 id, o4 id, o5 id, o6 id, o7 id⟩, h.bel.trans (g.mono h1.le)⟩
theorem Try.Zw.drewN {B : Nat} {w0 w : World} {r x q y b : Nat} {s1 s2 s3 s4 : Rs} {N : Nat} {v : Value} {li : List Int} {v2 : Value} {li2 : List Int} (h : Try.Zw B w0 w r x q y b s1 s2 s3 s4 N v li v2 li2) (n : Nat) : Try.Zw B w0 (w.drewN n) r x q y b s1 s2 s3 s4 N v li v2 li2 := h.below (belowN (Below.refl _ _) n)
/-- Both rows are laid away. -/
theorem Try.Zw.bare {B : Nat} {w0 w : World} {r x q y b : Nat} {s1 s2 s3 s4 : Rs} {N : Nat} {v : Value} {li : List Int} {v2 : Value} {li2 : List Int} (h : Try.Zw B w0 w r x q y b s1 s2 s3 s4 N v li v2 li2) : Try.Zw B w0 w r x q y b s1 s2 s3 s4 N v li (.slice none 0 0) [] := by
  obtain ⟨tag, h1⟩ := h.ex
  exact ⟨⟨tag, h1.lt, h1.r, h1.x, h1.q, h1.y, h1.k, h1.row, World.ownsRow_nil _ _ _ _, fun k e => by cases e⟩, h.bel⟩
theorem Try.Zw.rcall {B : Nat} {w0 w : World} {r x q y b : Nat} {s1 s2 s3 s4 s' : Rs} {N : Nat} {v : Value} {li : List Int} {v2 : Value} {li2 : List Int} (h : Try.Zw B w0 w r x q y b s1 s2 s3 s4 N v li v2 li2) {fn : FuncId} {args : Array Value} {E : Ending → Prop} (hc : ∀ own, Try.Rd w own r s1 → Calls Try.prog fn args w fun e w' => E e ∧ Try.RChg own w w' r s') :
    Calls Try.prog fn args w fun e w' => E e ∧ Try.Zw B w0 w' r x q y b s' s2 s3 s4 N v li v2 li2 := by
  obtain ⟨tag, g⟩ := h.ex
  refine (hc _ g.r).mono fun _ w' ⟨e1, hch⟩ => ⟨e1, ?_⟩
  obtain ⟨own', g1, g2⟩ := hch.ex
  have hsz := hch.wo.size
  obtain ⟨tag', t1, t2, t3, -⟩ := Wi.retag2 tag 1 1 (fun _ => False) B w.heap.size w'.heap.size g.lt (fun _ e => e.elim) own' (fun _ => False) (fun k e => (g2 k e).elim .inl fun e => .inr (.inr e)) g1.lt (fun _ e => e.elim) hsz g.le
  have hx : tag r = 1 := g.r.ox
  obtain ⟨-, o2, o3, o4, o5, o6, o7⟩ := g.others (fun j => j = 1) (tag' := tag') (w' := w') (fun j h1 h2 => t2 j h1 h1 h2 fun _ _ e => e) (fun k h1 h2 => hch.wo.block k (g.lt k h2).2 (fun e => h1 (by rw [e]; exact hx))) hsz
  exact ⟨⟨tag', t1, g1.more t3 (fun k e => (t1 k (by rw [show tag' k = 1 from e]; decide)).2), o2 (by decide), o3 (by decide), o4 (by decide), o5 (by decide), o6 (by decide), o7 (by decide)⟩, Wo.toBelow h.bel hch.wo (fun k e => by rw [show k = r from e]; exact (g.lt r (by rw [hx]; decide)).1) g.le⟩
theorem Try.Zw.xcall {B : Nat} {w0 w : World} {r x q y b : Nat} {s1 s2 s3 s4 s' : Rs} {N : Nat} {v : Value} {li : List Int} {v2 : Value} {li2 : List Int} (h : Try.Zw B w0 w r x q y b s1 s2 s3 s4 N v li v2 li2) {fn : FuncId} {args : Array Value} {E : Ending → Prop} (hc : ∀ own, Try.Xd w own x s2 → Calls Try.prog fn args w fun e w' => E e ∧ Try.XChg own w w' x s') :
    Calls Try.prog fn args w fun e w' => E e ∧ Try.Zw B w0 w' r x q y b s1 s' s3 s4 N v li v2 li2 := by
  obtain ⟨tag, g⟩ := h.ex
  refine (hc _ g.x).mono fun _ w' ⟨e1, hch⟩ => ⟨e1, ?_⟩
  have hsz := hch.wo.size
  have hx : tag x = 2 := g.x.ox
  obtain ⟨o1, -, o3, o4, o5, o6, o7⟩ := g.others (fun j => j = 2) (tag' := tag) (w' := w') (fun j h1 h2 => rfl) (fun k h1 h2 => hch.wo.block k (g.lt k h2).2 (fun e => h1 (by rw [e]; exact hx))) hsz
  exact ⟨⟨tag, fun k e => ⟨(g.lt k e).1, Nat.lt_of_lt_of_le (g.lt k e).2 hsz⟩, o1 (by decide), hch.rd, o3 (by decide), o4 (by decide), o5 (by decide), o6 (by decide), o7 (by decide)⟩, Wo.toBelow h.bel hch.wo (fun k e => by rw [show k = x from e]; exact (g.lt x (by rw [hx]; decide)).1) g.le⟩
theorem Try.Zw.list {B : Nat} {w0 w : World} {r x q y b : Nat} {s1 s2 s3 s4 : Rs} {N : Nat} {v : Value} {li : List Int} {v2 : Value} {li2 : List Int} (h : Try.Zw B w0 w r x q y b s1 s2 s3 s4 N v li v2 li2) (most : Int) (hmo : In64 most) (hlen : s1.t.length ≤ 1000000000000) {ls : List Int} {s' : Rs} (hn : (ls, s') = Wi.nums (Wi.many s1 most).1 [] (Wi.many s1 most).2) :
    Calls Try.prog 24 #[.pointer (some ⟨r, 0, .none⟩), .int .i64 most, .func (.func 25) #[] #[]] w fun e w' => ∃ ad cap, e = .returned (.slice ad ls.length cap) ∧ Try.Zw B w0 w' r x q y b s' s2 s3 s4 N (.slice ad ls.length cap) ls v2 li2 := by
  obtain ⟨tag, g⟩ := h.ex
  have h1 := Try.readList_any (Try.RJ.start g.r) most hmo hlen
  rw [← hn] at h1
  refine h1.mono fun _ w' ⟨ad, cap, e1, hRJ⟩ => ⟨ad, cap, e1, ?_⟩
  obtain ⟨oR, g1, g2, g3, g4⟩ := hRJ.ex
  have hsz := hRJ.wo.size
  obtain ⟨tag', t1, t2, t3, t4⟩ := Wi.retag2 tag 1 6 (fun _ => False) B w.heap.size w'.heap.size g.lt (fun _ e => e.elim) oR (fun k => (Value.slice ad ls.length cap).ownBlock = some k) (fun k e => (g2 k e).elim .inl fun e => .inr (.inr e)) g1.lt (fun k e => ⟨(g3.lt k e).1, (g3.lt k e).2, g4 k e⟩) hsz g.le
  have hx : tag r = 1 := g.r.ox
  obtain ⟨-, o2, o3, o4, o5, -, o7⟩ := g.others (fun j => j = 1 ∨ j = 6) (tag' := tag') (w' := w') (fun j h1 h2 => t2 j (fun e => h1 (.inl e)) (fun e => h1 (.inr e)) h2 fun _ _ e => e) (fun k h1 h2 => hRJ.wo.block k (g.lt k h2).2 (fun e => h1 (.inl e))) hsz
  refine ⟨⟨tag', t1, g1.more t3 (fun k e => (t1 k (by rw [show tag' k = 1 from e]; decide)).2), o2 (by decide), o3 (by decide), o4 (by decide), o5 (by decide), ⟨⟨g3.1, g3.2.elim Or.inl fun ⟨g, c, cur, q1, q2, q3⟩ => Or.inr ⟨g, c, cur, q1, Nat.zero_le _, q3⟩⟩, t4⟩, o7 (by decide)⟩, Wo.toBelow h.bel hRJ.wo (fun k e => (g.lt k (by rw [show tag k = 1 from e]; decide)).1) g.le⟩
theorem Try.Zw.comes {B : Nat} {w0 w : World} {r x q y b : Nat} {s1 s2 s3 s4 : Rs} {N : Nat} {ad : Option Addr} {cap : Nat} {ls : List Int} {v2 : Value} {li2 : List Int} (h : Try.Zw B w0 w r x q y b s1 s2 s3 s4 N (.slice ad ls.length cap) ls v2 li2) (hN : N ≤ 100000) (hn : ls.length ≤ 1000000000000) :
    Calls Try.prog 27 #[.pointer (some ⟨b, 0, none⟩), .slice ad ls.length cap] w fun e w' => e = .returned (.bool true) ∧ Try.Zw B w0 w' r x q y b s1 s2 s3 s4 (N + 4) (.slice none 0 0) [] v2 li2 := by
  obtain ⟨tag, g⟩ := h.ex
  refine (Try.comes_any g.k g.row.1 (fun k e e2 => by have h1 := g.row.2 k e; rw [show tag k = 5 from e2] at h1; cases h1) hN hn).mono fun _ w' ⟨e1, own', g1, g2, hwo⟩ => ⟨e1, ?_⟩
  have hsz := hwo.size
  obtain ⟨tag', t1, t2, t3, -⟩ := Wi.retag2 tag 5 5 (fun k => (Value.slice ad ls.length cap).ownBlock = some k) B w.heap.size w'.heap.size g.lt (fun k e => g.lt k (by rw [g.row.2 k e]; decide)) own' (fun _ => False) g2 g1.lt (fun _ e => e.elim) hsz g.le
  obtain ⟨o1, o2, o3, o4, -, -, o7⟩ := g.others (fun j => j = 5 ∨ j = 6) (tag' := tag') (w' := w') (fun j h1 h2 => t2 j (fun e => h1 (.inl e)) (fun e => h1 (.inl e)) h2 fun k e e2 => h1 (.inr (by rw [← e]; exact g.row.2 k e2))) (fun k h1 h2 => hwo.block k (g.lt k h2).2 (fun e => h1 (.inl e))) hsz
  exact ⟨⟨tag', t1, o1 (by decide), o2 (by decide), o3 (by decide), o4 (by decide), g1.more t3 (fun k e => (t1 k (by rw [show tag' k = 5 from e]; decide)).2), ⟨World.ownsRow_nil _ _ _ _, fun k e => by cases e⟩, o7 (by decide)⟩, Wo.toBelow h.bel hwo (fun k e => (g.lt k (by rw [show tag k = 5 from e]; decide)).1) g.le⟩
/-- 'append' of one number to the second row. -/
theorem Try.appZ {ops : Array Oper} {rest : List Oper} {o : Oper} {a : Act} {Q : Exit → Act → World → Prop} (hgd : o.guard = .none) (p z : Operand)
    (ho : o.op = .call { callee := .builtin .append, args := #[p, z], argTypes := #[31, 31] })
    {B : Nat} {w0 w : World} {r x q y b : Nat} {s1 s2 s3 s4 : Rs} {N : Nat} {v : Value} {li : List Int} {v2 : Value} {li2 : List Int} (h : Try.Zw B w0 w r x q y b s1 s2 s3 s4 N v li v2 li2)
    (hs : a.eval p = v2) (hy : a.eval z = .slice (some ⟨w.heap.size, 0, .none⟩) 1 1) (n : Int) (hlen : (li2.length + 1) * 8 ≤ 140737488355328)
    (hK : ∀ ad cap w1, Try.Zw B w0 w1 r x q y b s1 s2 s3 s4 N v li (.slice ad (li2.length + 1) cap) (li2 ++ [n]) → wpList Try.prog ops Q rest (a.put o.dst (.slice ad (li2.length + 1) cap)) w1) : wpList Try.prog ops Q (o :: rest) a (w.alloc (.cells #[.int .i64 n] 2)) := by
  obtain ⟨tag, g⟩ := h.ex
  obtain ⟨i0, hi0, hz0, hz1, hz2⟩ := info_parts Try.info_i64
  have hnb : (w.alloc (.cells #[.int .i64 n] 2)).heap[w.heap.size]? = some (.cells #[.int .i64 n] 2 (0, 0)) := heap_alloc_new w _
  have hb : Below w.heap.size w (w.alloc (.cells #[.int .i64 n] 2)) := (Below.refl w.heap.size w).alloc (Nat.le_refl _) _
  have hrow1 := Wi.row_heap g.row2.1 fun k e => hb.block k (g.row2.1.lt k e).2
  have hrlt := g.row2.1.lt
  have hle := g.le
  refine wpList_append_lies _ hgd p z 31 ho 0 2 i0 _ 1 8 Try.underlying31 hi0 hz0 hz1 hz2 rfl (by omega) v2 li2.length (Wi.ics li2) hs hrow1 ⟨w.heap.size, 0, .none⟩ 1 1 [.int .i64 n] hy rfl (World.news_of_block hnb) (by simp [Value.oneCell']) (by omega) (by unfold maxLen; omega) (by omega) (Nat.zero_le _) _ rfl ?_
  intro gg cap w' hown hg hat hlt
  have hsz : (w.alloc (.cells #[.int .i64 n] 2)).heap.size = w.heap.size + 1 := by simp
  have e : Wi.ics li2 ++ [Value.int .i64 n] = Wi.ics (li2 ++ [n]) := by simp [Wi.ics]
  rw [e] at hown
  have hl : (li2 ++ [n]).length = li2.length + 1 := by simp
  have hgs := hg.size
  have hgt : tag gg = 7 ∨ w.heap.size ≤ gg := by
    rcases hat with e3 | e3
    · exact .inl (g.row2.2 _ e3)
    · exact .inr (by rw [e3, hsz]; omega)
  obtain ⟨tag', t1, t2, t3, -⟩ := Wi.retag2 tag 7 7 (fun _ => False) B w.heap.size w'.heap.size g.lt (fun _ e => e.elim) (fun k => k = gg) (fun _ => False) (fun k e => by rw [show k = gg from e]; exact hgt.elim .inl fun e => .inr (.inr e)) (fun k e => by rw [show k = gg from e]; exact (hown.lt gg rfl).2) (fun _ e => e.elim) (by omega) hle
  obtain ⟨o1, o2, o3, o4, o5, o6, -⟩ := g.others (fun j => j = 7) (tag' := tag') (w' := w') (fun j h1 h2 => t2 j h1 h1 h2 fun _ _ e => e) (fun k h1 h2 => (hg.block k (by have := (g.lt k h2).2; omega) (fun e2 => h1 (g.row2.2 k e2.symm))).trans (hb.block k (g.lt k h2).2)) (by omega)
  refine hK (some ⟨gg, 0, .none⟩) cap w' ⟨⟨tag', t1, o1 (by decide), o2 (by decide), o3 (by decide), o4 (by decide), o5 (by decide), o6 (by decide), by rw [hl]; exact hown, fun k e1 => by cases e1; exact t3 _ rfl⟩, ?_⟩
  have hW : Wo (fun k => tag k = 7) w w' := ((Wo.refl _ w).below hb (Nat.le_refl _)).grown hg fun k e1 => .inl (g.row2.2 k e1)
  exact Wo.toBelow h.bel hW (fun k e => (g.lt k (by rw [show tag k = 7 from e]; decide)).1) hle
/-- The two pairs change places. -/
def Wi.sg (n : Nat) : Nat := if n = 1 then 3 else if n = 2 then 4 else if n = 3 then 1 else if n = 4 then 2 else n
theorem Wi.sg_eq (n m : Nat) : (Wi.sg n = m) = (n = Wi.sg m) := by
  unfold Wi.sg
  apply propext
  constructor <;> intro h <;> (repeat' split at *) <;> omega
theorem Try.Zw.swap {B : Nat} {w0 w : World} {r x q y b : Nat} {s1 s2 s3 s4 : Rs} {N : Nat} {v : Value} {li : List Int} {v2 : Value} {li2 : List Int} (h : Try.Zw B w0 w r x q y b s1 s2 s3 s4 N v li v2 li2) : Try.Zw B w0 w q y r x b s3 s4 s1 s2 N v li v2 li2 := by
  obtain ⟨tag, g⟩ := h.ex
  have ht : ∀ m, (fun k => Wi.sg (tag k) = m) = fun k => tag k = Wi.sg m := fun m => funext fun k => Wi.sg_eq _ _
  refine ⟨⟨fun k => Wi.sg (tag k), fun k e => g.lt k fun e2 => e (by simp only [e2]; rfl), ?_, ?_, ?_, ?_, ?_, ⟨g.row.1, fun k e => ?_⟩, ⟨g.row2.1, fun k e => ?_⟩⟩, h.bel⟩
  · rw [ht 1]; exact g.q
  · rw [ht 2]; exact g.y
  · rw [ht 3]; exact g.r
  · rw [ht 4]; exact g.x
  · rw [ht 5]; exact g.k
  · show Wi.sg (tag k) = 6
    rw [g.row.2 k e]; rfl
  · show Wi.sg (tag k) = 7
    rw [g.row2.2 k e]; rfl
end Go.Proofs
