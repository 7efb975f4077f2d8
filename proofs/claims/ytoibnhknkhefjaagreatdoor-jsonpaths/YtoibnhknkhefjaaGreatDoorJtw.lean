/-
  Rows of texts that are owned, each within its own blocks.
-/
import Derived.Test.YtoibnhknkhefjaaGreatDoorJpa
import Derived.ArgAppend
import Derived.OwnWalk
import Derived.Laws.AppendOwnNone
namespace Go.Proofs
open Go.RowKit Go.Jv
theorem Jv.txts_at {l : List ByteArray} {i : Nat} {X : ByteArray} (h : l[i]? = some X) : (Jv.txts l)[i]? = some (.string X) := by simp [Jv.txts, h]
theorem Jv.txts_len (l : List ByteArray) : (Jv.txts l).length = l.length := by simp [Jv.txts]
/-- A row of texts, nil or in a block of these. -/
structure Tryz.Own (w : World) (v : Value) (lo hi : Nat) (l : List ByteArray) : Prop where
  row : w.ownsRow lo 9 1 v l.length (Jv.txts l)
  blk : ∀ k, v.ownBlock = some k → k < hi
  siz : hi ≤ w.heap.size
theorem Tryz.Own.keep {w w' : World} {v : Value} {lo hi : Nat} {l : List ByteArray} (h : Tryz.Own w v lo hi l) (hk : ∀ g, lo ≤ g → g < hi → w'.heap[g]? = w.heap[g]?) (hs : w.heap.size ≤ w'.heap.size) : Tryz.Own w' v lo hi l := by
  obtain ⟨⟨h1, h2⟩, h3, h4⟩ := h
  refine ⟨⟨h1, ?_⟩, h3, Nat.le_trans h4 hs⟩
  rcases h2 with h2 | ⟨g, cap, cur, e, hb, hg, hr⟩
  · exact .inl h2
  · subst e
    exact .inr ⟨g, cap, cur, rfl, hb, (hk g hb (h3 g rfl)).trans hg, hr⟩
theorem Tryz.Own.form {w : World} {v : Value} {lo hi : Nat} {l : List ByteArray} (h : Tryz.Own w v lo hi l) : ∃ a c, v = .slice a l.length c := by
  rcases h.row.2 with ⟨h1, h2⟩ | ⟨g, cap, cur, h1, _⟩
  · exact ⟨none, 0, by rw [h1, h2]⟩
  · exact ⟨_, cap, h1⟩
theorem Tryz.Own.at {w : World} {a : Option Addr} {n c lo hi : Nat} {l : List ByteArray} (h : Tryz.Own w (.slice a n c) lo hi l) {i : Nat} {X : ByteArray} (hX : l[i]? = some X) :
    ∃ g, a = some ⟨g, 0, none⟩ ∧ n = l.length ∧ lo ≤ g ∧ g < hi ∧ g < w.heap.size ∧ w.cell? ⟨g, i, none⟩ = some (.string X) ∧ w.frozen? ⟨g, i, none⟩ = false := by
  have hi' := (List.getElem?_eq_some_iff.1 hX).1
  obtain ⟨g, cap, hv, hb, hlt⟩ := h.row.form (by omega)
  cases hv
  exact ⟨g, rfl, rfl, hb, h.blk g rfl, hlt, (h.row.cellAt i (by omega)).trans (Jv.txts_at hX), h.row.frozenAt i⟩
theorem Tryz.Own.set {w : World} {g n c lo hi : Nat} {l : List ByteArray} (h : Tryz.Own w (.slice (some ⟨g, 0, none⟩) n c) lo hi l) (hn : n = l.length) (i : Nat) (X : ByteArray) :
    Tryz.Own (w.setCell ⟨g, i, none⟩ (.string X)) (.slice (some ⟨g, 0, none⟩) n c) lo hi (l.set i X) := by
  subst hn
  obtain ⟨h1, h2, h3⟩ := h
  refine ⟨?_, h2, by simpa using h3⟩
  have := (h1.stored i (.string X)).1
  rw [List.length_set]
  have e : Jv.txts (l.set i X) = (Jv.txts l).set i (.string X) := by simp [Jv.txts, List.map_set]
  rw [e]; exact this
/-- A row of texts that is read. -/
structure Jv.Rr (w : World) (v : Value) (l : List ByteArray) (ok : Nat → Prop) : Prop where
  ex : ∃ a c, v = .slice a l.length c ∧ (l = [] ∨ ∃ g, a = some ⟨g, 0, none⟩ ∧ ok g ∧ g < w.heap.size ∧ ∀ (j : Nat) X, l[j]? = some X → w.cell? ⟨g, j, none⟩ = some (.string X))
theorem Jv.Rr.keep {w w' : World} {v : Value} {l : List ByteArray} {ok : Nat → Prop} (h : Jv.Rr w v l ok) (hk : ∀ g, ok g → g < w.heap.size → w'.heap[g]? = w.heap[g]?) (hs : w.heap.size ≤ w'.heap.size) : Jv.Rr w' v l ok := by
  obtain ⟨a, c, h1, h2⟩ := h
  refine ⟨a, c, h1, ?_⟩
  rcases h2 with h2 | ⟨g, h2, h3, h4, h5⟩
  · exact .inl h2
  · exact .inr ⟨g, h2, h3, Nat.lt_of_lt_of_le h4 hs, fun j X hX => (World.cell?_of_block (a := ⟨g, j, none⟩) (hk g h3 h4)).trans (h5 j X hX)⟩
theorem Jv.Rr.mono {w : World} {v : Value} {l : List ByteArray} {ok ok' : Nat → Prop} (h : Jv.Rr w v l ok) (hk : ∀ g, ok g → g < w.heap.size → ok' g) : Jv.Rr w v l ok' := by
  obtain ⟨a, c, h1, h2⟩ := h
  refine ⟨a, c, h1, ?_⟩
  rcases h2 with h2 | ⟨g, h2, h3, h4, h5⟩
  · exact .inl h2
  · exact .inr ⟨g, h2, hk g h3 h4, h4, h5⟩
theorem Jv.Rr.at {w : World} {a : Option Addr} {n c : Nat} {l : List ByteArray} {ok : Nat → Prop} (h : Jv.Rr w (.slice a n c) l ok) {i : Nat} {X : ByteArray} (hX : l[i]? = some X) :
    ∃ g, a = some ⟨g, 0, none⟩ ∧ n = l.length ∧ ok g ∧ w.cell? ⟨g, i, none⟩ = some (.string X) := by
  obtain ⟨a', c', h1, h2⟩ := h
  cases h1
  rcases h2 with h2 | ⟨g, h2, h3, h4, h5⟩
  · rw [h2] at hX; simp at hX
  · exact ⟨g, h2, rfl, h3, h5 i X hX⟩
theorem Tryz.Own.rr {w : World} {v : Value} {lo hi : Nat} {l : List ByteArray} (h : Tryz.Own w v lo hi l) : Jv.Rr w v l (fun g => lo ≤ g ∧ g < hi) := by
  rcases h.row.2 with ⟨h1, h2⟩ | ⟨g, cap, cur, h1, hb, hg, _⟩
  · exact ⟨none, 0, by rw [h1, h2], .inl (List.eq_nil_of_length_eq_zero h2)⟩
  · subst h1
    refine ⟨_, cap, rfl, .inr ⟨g, rfl, ⟨hb, h.blk g rfl⟩, (Array.getElem?_eq_some_iff.1 hg).1, fun j X hX => ?_⟩⟩
    have hj := (List.getElem?_eq_some_iff.1 hX).1
    exact (h.row.cellAt j (by omega)).trans (Jv.txts_at hX)
/-- Of a world only these blocks have turned. -/
structure Jv.Off (lo hi : Nat) (w w' : World) : Prop where
  os : w'.os = w.os
  tape : w'.tape = w.tape
  output : w'.output = w.output
  size : w'.heap.size = w.heap.size
  block : ∀ g : Nat, ¬ (lo ≤ g ∧ g < hi) → w'.heap[g]? = w.heap[g]?
theorem Jv.Off.refl (lo hi : Nat) (w : World) : Jv.Off lo hi w w := ⟨rfl, rfl, rfl, rfl, fun _ _ => rfl⟩
theorem Jv.Off.same {lo hi : Nat} {w w1 w2 : World} (h : Jv.Off lo hi w w1) (h1 : w2.heap = w1.heap) (h2 : w2.os = w1.os) (h3 : w2.tape = w1.tape) (h4 : w2.output = w1.output) : Jv.Off lo hi w w2 :=
  ⟨h2.trans h.os, h3.trans h.tape, h4.trans h.output, by rw [h1]; exact h.size, fun g hg => by rw [h1]; exact h.block g hg⟩
theorem Jv.Off.set {lo hi : Nat} {w w1 : World} (h : Jv.Off lo hi w w1) {g i : Nat} {X : Value} (h1 : lo ≤ g) (h2 : g < hi) : Jv.Off lo hi w (w1.setCell ⟨g, i, none⟩ X) :=
  ⟨h.os, h.tape, h.output, by simpa using h.size, fun k hk => (Below.heap_setCell w1 ⟨g, i, none⟩ X k (by show k ≠ g; rintro rfl; exact hk ⟨h1, h2⟩)).trans (h.block k hk)⟩
theorem Jv.Off.below {lo hi : Nat} {w w1 : World} (h : Jv.Off lo hi w w1) : Below lo w w1 := ⟨h.os, h.tape, h.output, by rw [h.size]; exact Nat.le_refl _, fun k hk => h.block k (by omega)⟩
/-- A copy of a row: 'append([]string{}, a...)'. -/
theorem Tryz.app_copy {ops : Array Oper} {rest : List Oper} {o : Oper} {a : Act} {Q : Exit → Act → World → Prop} (hgd : o.guard = none) (s x : Operand)
    (ho : o.op = .call { callee := .builtin .append, args := #[s, x], argTypes := #[23, 23] })
    (w : World) (hs : a.eval s = .slice (some ⟨w.heap.size, 0, none⟩) 0 0) (v : Value) (hx : a.eval x = v) (lo hi : Nat) (l : List ByteArray) (hO : Tryz.Own w v lo hi l) (hnil : l = [] → v = .slice none 0 0) (hl : l.length ≤ 1000000)
    (h : ∀ v' w', Jv.Rr w' v' l (fun g => w.heap.size ≤ g) → Below w.heap.size w w' → wpList Tryz.prog ops Q rest (a.put o.dst v') w') : wpList Tryz.prog ops Q (o :: rest) a (w.alloc (.cells #[] 9)) := by
  obtain ⟨i0, hi0, hz0, hz1, hz2⟩ := info_parts Tryz.info_str
  have hb0 := (Below.refl w.heap.size w).alloc (Nat.le_refl _) (.cells #[] 9)
  rcases hO.row.2 with ⟨h1, h2⟩ | ⟨g, cap, cur, h1, hb, hg, _⟩
  · have hown : (w.alloc (.cells #[] 9)).ownsRow w.heap.size 9 1 (.slice (some ⟨w.heap.size, 0, none⟩) 0 0) 0 [] := World.ownsRow_lit w #[] 0 (Nat.le_refl _) (by unfold maxLen; omega) rfl
    refine wpList_append_own_none hgd s x 23 ho w.heap.size 9 i0 1 Tryz.underlying23 hi0 _ 0 [] hs hown (hx.trans h1) ?_
    have hl0 := List.eq_nil_of_length_eq_zero h2
    subst hl0
    exact h _ _ ⟨_, 0, rfl, .inl rfl⟩ hb0
  · have hpos : 0 < l.length ∨ l.length = 0 := by omega
    have hglt := (Array.getElem?_eq_some_iff.1 hg).1
    rcases hpos with hpos | h0
    · refine wpList_append_grows _ hgd s x 23 ho 9 i0 _ 1 16 Tryz.underlying23 hi0 hz0 hz1 hz2 rfl (by omega) (some ⟨w.heap.size, 0, none⟩) 0 0 [] hs (by simp) rfl (fun b _ j u hj => by simp at hj) ⟨g, 0, none⟩ l.length cap (Jv.txts l) (hx.trans h1) (by rw [Jv.txts_len]; omega) (fun j u hj => ?_) (fun u hu => by obtain ⟨X, _, rfl⟩ := List.mem_map.1 hu; rfl) (by omega) (by unfold maxLen; omega) (by omega) ?_
      · have hadd : (⟨g, 0, none⟩ : Addr).add j = ⟨g, j, none⟩ := by unfold Addr.add; split <;> simp_all
        rw [hadd, hb0.cell (p := ⟨g, j, none⟩) hglt]
        have hj' := (List.getElem?_eq_some_iff.1 hj).1
        rw [Jv.txts_len] at hj'
        subst h1
        rw [hO.row.cellAt j (by omega)]; exact hj
      · intro v' w' hown hgr
        rw [List.nil_append, Nat.zero_add] at hown
        have hbb : Below w.heap.size w w' := hb0.grown hgr (by simp) (fun k hk => by cases hk)
        refine h v' w' ?_ hbb
        obtain ⟨g', cap', rfl, hb', hlt'⟩ := hown.form hpos
        refine ⟨_, cap', rfl, .inr ⟨g', rfl, by simp at hb'; omega, hlt', fun j X hX => ?_⟩⟩
        have hj := (List.getElem?_eq_some_iff.1 hX).1
        exact (hown.cellAt j (by omega)).trans (Jv.txts_at hX)
    · have := hnil (List.eq_nil_of_length_eq_zero h0)
      rw [h1] at this; simp at this
/-- A row that is owned, grown: it stays as it was. -/
theorem Tryz.app_more {ops : Array Oper} {rest : List Oper} {o : Oper} {a : Act} {Q : Exit → Act → World → Prop} (hgd : o.guard = none) (s x : Operand)
    (ho : o.op = .call { callee := .builtin .append, args := #[s, x], argTypes := #[23, 23] })
    (w : World) (v : Value) (hs : a.eval s = v) (m : Nat) (hx : a.eval x = .slice (some ⟨w.heap.size, 0, none⟩) m m) (lo hi : Nat) (l news : List ByteArray) (hO : Tryz.Own w v lo hi l) (hl : l.length ≤ 1000000) (hm : news.length = m) (hm0 : 0 < m) (hm1 : m ≤ 1000)
    (h : ∀ v' w', Jv.Rr w' v' (l ++ news) (fun g => (lo ≤ g ∧ g < hi) ∨ w.heap.size ≤ g) → Tryz.Own w' v lo hi l → w.heap.size ≤ w'.heap.size → w'.os = w.os → w'.tape = w.tape → w'.output = w.output → (∀ k, k < w.heap.size → ¬ (lo ≤ k ∧ k < hi) → w'.heap[k]? = w.heap[k]?) → wpList Tryz.prog ops Q rest (a.put o.dst v') w') :
    wpList Tryz.prog ops Q (o :: rest) a (w.alloc (.cells (Jv.txts news).toArray 9)) := by
  obtain ⟨i0, hi0, hz0, hz1, hz2⟩ := info_parts Tryz.info_str
  have hb0 := (Below.refl w.heap.size w).alloc (Nat.le_refl _) (.cells (Jv.txts news).toArray 9)
  have hnl : (Jv.txts news).length = m * 1 := by rw [Jv.txts_len]; omega
  have hnc : ∀ (j : Nat) u, (Jv.txts news)[j]? = some u → (w.alloc (.cells (Jv.txts news).toArray 9)).cell? ((⟨w.heap.size, 0, none⟩ : Addr).add j) = some u := World.news_of_block (cs := (Jv.txts news).toArray) (t := 9) (fr := (0, 0)) (heap_alloc_new w _)
  have hone : ∀ u ∈ Jv.txts news, u.oneCell' = true := fun u hu => by obtain ⟨X, _, rfl⟩ := List.mem_map.1 hu; rfl
  have hsz : (w.alloc (.cells (Jv.txts news).toArray 9)).heap.size = w.heap.size + 1 := by simp
  have hta : Jv.txts l ++ Jv.txts news = Jv.txts (l ++ news) := by simp [Jv.txts]
  have hOa : Tryz.Own (w.alloc (.cells (Jv.txts news).toArray 9)) v lo hi l := hO.keep (fun g _ h2 => Below.heap_alloc w _ g (Nat.lt_of_lt_of_le h2 hO.siz)) hb0.size
  -- a row that was laid anew
  have fresh : ∀ v' w', w'.ownsRow (w.alloc (.cells (Jv.txts news).toArray 9)).heap.size 9 1 v' (l.length + m) (Jv.txts l ++ Jv.txts news) → (w.alloc (.cells (Jv.txts news).toArray 9)).grownBy w' none → wpList Tryz.prog ops Q rest (a.put o.dst v') w' := by
    intro v' w' hown hgr
    have hbb : Below w.heap.size w w' := hb0.grown hgr (by simp) (fun k hk => by cases hk)
    refine h v' w' ?_ (hO.keep (fun g _ h2 => hbb.block g (Nat.lt_of_lt_of_le h2 hO.siz)) hbb.size) hbb.size hbb.os hbb.tape hbb.output (fun k hk _ => hbb.block k hk)
    obtain ⟨g', cap', rfl, hb', hlt'⟩ := hown.form (by omega)
    refine ⟨_, cap', by rw [List.length_append, hm], .inr ⟨g', rfl, .inr (by omega), hlt', fun j X hX => ?_⟩⟩
    have hj := (List.getElem?_eq_some_iff.1 hX).1
    rw [List.length_append, hm] at hj
    rw [hown.cellAt j (by omega), hta]
    exact Jv.txts_at hX
  rcases hO.row.2 with ⟨h1, h2⟩ | ⟨g, cap, cur, h1, hb, hg, hcap, _⟩
  · have hl0 := List.eq_nil_of_length_eq_zero h2
    subst hl0
    exact wpList_append_grows _ hgd s x 23 ho 9 i0 _ 1 16 Tryz.underlying23 hi0 hz0 hz1 hz2 rfl (by omega) none 0 0 [] (hs.trans h1) (by simp) rfl (fun b hb => by cases hb) ⟨w.heap.size, 0, none⟩ m m (Jv.txts news) hx hnl hnc hone (by omega) (by unfold maxLen; omega) (by omega) fresh
  · have hglt := (Array.getElem?_eq_some_iff.1 hg).1
    have hghi := hO.blk g (by rw [h1]; rfl)
    by_cases hfit : l.length + m ≤ cap
    · have hown0 := hOa.row
      rw [h1] at hown0
      refine wpList_append_fits _ hgd s x 23 ho lo 9 i0 1 Tryz.underlying23 hi0 hz1 g l.length cap (Jv.txts l) (hs.trans h1) hown0 ⟨w.heap.size, 0, none⟩ m m (Jv.txts news) hx hnl hnc hone hfit ?_
      intro w' hown hgr
      have hsw := hgr.size
      have hblk : ∀ k, k < w.heap.size → k ≠ g → w'.heap[k]? = w.heap[k]? := fun k hk hne => (hgr.block k (by omega) (fun e => hne (Option.some.inj e))).trans (Below.heap_alloc w _ k hk)
      refine h _ w' ⟨_, cap, by rw [List.length_append, hm], .inr ⟨g, rfl, .inl ⟨hb, hghi⟩, by omega, fun j X hX => ?_⟩⟩ ?_ (by omega) hgr.os hgr.tape hgr.output (fun k hk hno => hblk k hk (fun e => hno (e ▸ ⟨hb, hghi⟩)))
      · have hj := (List.getElem?_eq_some_iff.1 hX).1
        rw [List.length_append, hm] at hj
        rw [hown.cellAt j (by omega), hta]
        exact Jv.txts_at hX
      · refine ⟨⟨by rw [Jv.txts_len]; omega, .inr ?_⟩, hO.blk, by have := hO.siz; omega⟩
        rcases hown.2 with ⟨e, _⟩ | ⟨g', cap', cur', e, hb', hg', hc', hm', hz', ht'⟩
        · cases e
        · cases e
          refine ⟨g, cap, cur', h1, hb, hg', hcap, hm', hz', ?_⟩
          have := congrArg (List.take (l.length * 1)) ht'
          rw [List.take_take, Nat.min_eq_left (by omega)] at this
          rw [this, List.take_left' (by rw [Jv.txts_len]; omega)]
    · refine wpList_append_grows _ hgd s x 23 ho 9 i0 _ 1 16 Tryz.underlying23 hi0 hz0 hz1 hz2 rfl (by omega) (some ⟨g, 0, none⟩) l.length cap (Jv.txts l) (hs.trans h1) (by simp) (by rw [Jv.txts_len]; omega) (fun b hb j u hj => ?_) ⟨w.heap.size, 0, none⟩ m m (Jv.txts news) hx hnl hnc hone (by omega) (by unfold maxLen; omega) (by omega) fresh
      cases hb
      have hadd : (⟨g, 0, none⟩ : Addr).add j = ⟨g, j, none⟩ := by unfold Addr.add; split <;> simp_all
      rw [hadd]
      have hj' := (List.getElem?_eq_some_iff.1 hj).1
      rw [Jv.txts_len] at hj'
      have hown0 := hOa.row
      rw [h1] at hown0
      rw [hown0.cellAt j (by omega)]; exact hj
theorem Tryz.app_copy' {ops : Array Oper} {rest : List Oper} {o : Oper} {a : Act} {Q : Exit → Act → World → Prop} (hgd : o.guard = none) (s x : Operand)
    (ho : o.op = .call { callee := .builtin .append, args := #[s, x], argTypes := #[23, 23] })
    (w : World) (hs : a.eval s = .slice (some ⟨w.heap.size, 0, none⟩) 0 0) (v : Value) (hx : a.eval x = v) (lo hi : Nat) (l : List ByteArray) (hO : Tryz.Own w v lo hi l) (hnil : l = [] → v = .slice none 0 0) (hl : l.length ≤ 1000000)
    (h : ∀ ax cx w', Jv.Rr w' (.slice ax l.length cx) l (fun g => w.heap.size ≤ g) → Below w.heap.size w w' → wpList Tryz.prog ops Q rest (a.put o.dst (.slice ax l.length cx)) w') : wpList Tryz.prog ops Q (o :: rest) a (w.alloc (.cells #[] 9)) :=
  Tryz.app_copy hgd s x ho w hs v hx lo hi l hO hnil hl fun v' w' hr hb => by
    have hr2 := hr
    obtain ⟨ax, cx, rfl, _⟩ := hr
    exact h ax cx w' hr2 hb
theorem Tryz.app_more' {ops : Array Oper} {rest : List Oper} {o : Oper} {a : Act} {Q : Exit → Act → World → Prop} (hgd : o.guard = none) (s x : Operand)
    (ho : o.op = .call { callee := .builtin .append, args := #[s, x], argTypes := #[23, 23] })
    (w : World) (v : Value) (hs : a.eval s = v) (m : Nat) (hx : a.eval x = .slice (some ⟨w.heap.size, 0, none⟩) m m) (lo hi : Nat) (l news : List ByteArray) (n : Nat) (hn : l.length = n) (hO : Tryz.Own w v lo hi l) (hl : n ≤ 1000000) (hm : news.length = m) (hm0 : 0 < m) (hm1 : m ≤ 1000)
    (h : ∀ ax cx w', Jv.Rr w' (.slice ax (n + m) cx) (l ++ news) (fun g => (lo ≤ g ∧ g < hi) ∨ w.heap.size ≤ g) → Tryz.Own w' v lo hi l → Below lo w w' → (∀ k, k < w.heap.size → ¬ (lo ≤ k ∧ k < hi) → w'.heap[k]? = w.heap[k]?) → wpList Tryz.prog ops Q rest (a.put o.dst (.slice ax (n + m) cx)) w') (hlo : lo ≤ w.heap.size) :
    wpList Tryz.prog ops Q (o :: rest) a (w.alloc (.cells (Jv.txts news).toArray 9)) :=
  Tryz.app_more hgd s x ho w v hs m hx lo hi l news hO (by omega) hm hm0 hm1 fun v' w' hr hO' h1 h2 h3 h4 h5 => by
    have hr2 := hr
    obtain ⟨ax, cx, rfl, _⟩ := hr
    have e : (l ++ news).length = n + m := by rw [List.length_append]; omega
    rw [e] at hr2 ⊢
    exact h ax cx w' hr2 hO' ⟨h2, h3, h4, h1, fun k hk => h5 k (by omega) (by omega)⟩ h5
theorem Tryz.Own.off {w w' : World} {v : Value} {lo hi lo' hi' : Nat} {l : List ByteArray} (h : Tryz.Own w v lo hi l) (ho : Jv.Off lo' hi' w w') (hd : hi ≤ lo' ∨ hi' ≤ lo) : Tryz.Own w' v lo hi l :=
  h.keep (fun g h1 h2 => ho.block g (by omega)) (by rw [ho.size]; exact Nat.le_refl _)
theorem Jv.Rr.off {w w' : World} {v : Value} {lo' hi' : Nat} {l : List ByteArray} {ok : Nat → Prop} (h : Jv.Rr w v l ok) (ho : Jv.Off lo' hi' w w') (hd : ∀ g, ok g → ¬ (lo' ≤ g ∧ g < hi')) : Jv.Rr w' v l ok :=
  h.keep (fun g h1 _ => ho.block g (hd g h1)) (by rw [ho.size]; exact Nat.le_refl _)
theorem Jv.rep_at {l : List ByteArray} {k : Nat} (F : ByteArray) (_h : k < l.length) : (List.replicate k F ++ l.drop k)[k]? = l[k]? := by
  rw [List.getElem?_append_right (by simp)]; simp
theorem Jv.rep_set {l : List ByteArray} {k : Nat} (F : ByteArray) (h : k < l.length) : (List.replicate k F ++ l.drop k).set k F = List.replicate (k + 1) F ++ l.drop (k + 1) := by
  rw [List.set_append_right _ _ (by simp)]
  simp only [List.length_replicate, Nat.sub_self]
  rw [List.drop_eq_getElem_cons h, List.set_cons_zero, List.replicate_succ', List.append_assoc]
  rfl
theorem Jv.rep_full {l : List ByteArray} {k : Nat} (F : ByteArray) (h : k = l.length) : List.replicate k F ++ l.drop k = List.replicate l.length F := by
  subst h; simp
theorem Jv.rep_len {l : List ByteArray} {k : Nat} (F : ByteArray) (h : k ≤ l.length) : (List.replicate k F ++ l.drop k).length = l.length := by simp; omega
theorem Jv.rep_get {n k : Nat} (F : ByteArray) (h : k < n) : (List.replicate n F)[k]? = some F := by simp [h]
end Go.Proofs

