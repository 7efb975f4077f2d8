/-
  Laid together by packg.py of Jtw Jls Jmk Jpp.
-/
import Derived.Test.YtcakkkafanpjaaaGreatDoorQaM
import Derived.Test.YtcakkkafanpjaaaGreatDoorQaY
import Derived.Test.YtcakkkafanpjaaaGreatDoorQaN
import Derived.ArgAppend
import Derived.OwnWalk
import Derived.Laws.AppendOwnNone
import Derived.Deep.DeepCutAuto
import Derived.BigQuiet
namespace Go.Proofs
open Go.RowKit Go.Jv
theorem Jv.txts_at {l : List ByteArray} {i : Nat} {X : ByteArray} (h : l[i]? = some X) : (Jv.txts l)[i]? = some (.string X) := by simp [Jv.txts, h]
theorem Jv.txts_len (l : List ByteArray) : (Jv.txts l).length = l.length := by simp [Jv.txts]
/-- A row of texts, nil or in a block of these. -/
structure Tryz.Own (w : World) (v : Value) (lo hi : Nat) (l : List ByteArray) : Prop where
  row : w.ownsRow lo 9 1 v l.length (Jv.txts l)
  blk : ∀ k, v.ownBlock = some k → k < hi
  siz : hi ≤ w.heap.size
theorem Tryz.Own.keep {w w' : World} {v : Value} {lo hi : Nat} {l : List ByteArray} (h : Tryz.Own w v lo hi l) (hk : ∀ g, lo ≤ g → g < hi → w'.heap[g]? = w.heap[g]?) (hs : w.heap.size ≤ w'.heap.size) : Tryz.Own w' v lo hi l := by
  obtain ⟨⟨h1, h2⟩, h3, h4⟩ := h
  refine ⟨⟨h1, ?_⟩, h3, Nat.le_trans h4 hs⟩
  rcases h2 with h2 | ⟨g, cap, cur, e, hb, hg, hr⟩
  · exact .inl h2
  · subst e
    exact .inr ⟨g, cap, cur, rfl, hb, (hk g hb (h3 g rfl)).trans hg, hr⟩
theorem Tryz.Own.form {w : World} {v : Value} {lo hi : Nat} {l : List ByteArray} (h : Tryz.Own w v lo hi l) : ∃ a c, v = .slice a l.length c := by
  rcases h.row.2 with ⟨h1, h2⟩ | ⟨g, cap, cur, h1, _⟩
  · exact ⟨none, 0, by rw [h1, h2]⟩
  · exact ⟨_, cap, h1⟩
theorem Tryz.Own.at {w : World} {a : Option Addr} {n c lo hi : Nat} {l : List ByteArray} (h : Tryz.Own w (.slice a n c) lo hi l) {i : Nat} {X : ByteArray} (hX : l[i]? = some X) :
    ∃ g, a = some ⟨g, 0, none⟩ ∧ n = l.length ∧ lo ≤ g ∧ g < hi ∧ g < w.heap.size ∧ w.cell? ⟨g, i, none⟩ = some (.string X) ∧ w.frozen? ⟨g, i, none⟩ = false := by
  have hi' := (List.getElem?_eq_some_iff.1 hX).1
  obtain ⟨g, cap, hv, hb, hlt⟩ := h.row.form (by omega)
  cases hv
  exact ⟨g, rfl, rfl, hb, h.blk g rfl, hlt, (h.row.cellAt i (by omega)).trans (Jv.txts_at hX), h.row.frozenAt i⟩
theorem Tryz.Own.set {w : World} {g n c lo hi : Nat} {l : List ByteArray} (h : Tryz.Own w (.slice (some ⟨g, 0, none⟩) n c) lo hi l) (hn : n = l.length) (i : Nat) (X : ByteArray) :
    Tryz.Own (w.setCell ⟨g, i, none⟩ (.string X)) (.slice (some ⟨g, 0, none⟩) n c) lo hi (l.set i X) := by
  subst hn
  obtain ⟨h1, h2, h3⟩ := h
  refine ⟨?_, h2, by simpa using h3⟩
  have := (h1.stored i (.string X)).1
  rw [List.length_set]
  have e : Jv.txts (l.set i X) = (Jv.txts l).set i (.string X) := by simp [Jv.txts, List.map_set]
  rw [e]; exact this
/-- A row of texts that is read. -/
structure Jv.Rr (w : World) (v : Value) (l : List ByteArray) (ok : Nat → Prop) : Prop where
  ex : ∃ a c, v = .slice a l.length c ∧ (l = [] ∨ ∃ g, a = some ⟨g, 0, none⟩ ∧ ok g ∧ g < w.heap.size ∧ ∀ (j : Nat) X, l[j]? = some X → w.cell? ⟨g, j, none⟩ = some (.string X))
theorem Jv.Rr.keep {w w' : World} {v : Value} {l : List ByteArray} {ok : Nat → Prop} (h : Jv.Rr w v l ok) (hk : ∀ g, ok g → g < w.heap.size → w'.heap[g]? = w.heap[g]?) (hs : w.heap.size ≤ w'.heap.size) : Jv.Rr w' v l ok := by
  obtain ⟨a, c, h1, h2⟩ := h
  refine ⟨a, c, h1, ?_⟩
  rcases h2 with h2 | ⟨g, h2, h3, h4, h5⟩
  · exact .inl h2
  · exact .inr ⟨g, h2, h3, Nat.lt_of_lt_of_le h4 hs, fun j X hX => (World.cell?_of_block (a := ⟨g, j, none⟩) (hk g h3 h4)).trans (h5 j X hX)⟩
theorem Jv.Rr.mono {w : World} {v : Value} {l : List ByteArray} {ok ok' : Nat → Prop} (h : Jv.Rr w v l ok) (hk : ∀ g, ok g → g < w.heap.size → ok' g) : Jv.Rr w v l ok' := by
  obtain ⟨a, c, h1, h2⟩ := h
  refine ⟨a, c, h1, ?_⟩
  rcases h2 with h2 | ⟨g, h2, h3, h4, h5⟩
  · exact .inl h2
  · exact .inr ⟨g, h2, hk g h3 h4, h4, h5⟩
theorem Jv.Rr.at {w : World} {a : Option Addr} {n c : Nat} {l : List ByteArray} {ok : Nat → Prop} (h : Jv.Rr w (.slice a n c) l ok) {i : Nat} {X : ByteArray} (hX : l[i]? = some X) :
    ∃ g, a = some ⟨g, 0, none⟩ ∧ n = l.length ∧ ok g ∧ w.cell? ⟨g, i, none⟩ = some (.string X) := by
  obtain ⟨a', c', h1, h2⟩ := h
  cases h1
  rcases h2 with h2 | ⟨g, h2, h3, h4, h5⟩
  · rw [h2] at hX; simp at hX
  · exact ⟨g, h2, rfl, h3, h5 i X hX⟩
theorem Tryz.Own.rr {w : World} {v : Value} {lo hi : Nat} {l : List ByteArray} (h : Tryz.Own w v lo hi l) : Jv.Rr w v l (fun g => lo ≤ g ∧ g < hi) := by
  rcases h.row.2 with ⟨h1, h2⟩ | ⟨g, cap, cur, h1, hb, hg, _⟩
  · exact ⟨none, 0, by rw [h1, h2], .inl (List.eq_nil_of_length_eq_zero h2)⟩
  · subst h1
    refine ⟨_, cap, rfl, .inr ⟨g, rfl, ⟨hb, h.blk g rfl⟩, (Array.getElem?_eq_some_iff.1 hg).1, fun j X hX => ?_⟩⟩
    have hj := (List.getElem?_eq_some_iff.1 hX).1
    exact (h.row.cellAt j (by omega)).trans (Jv.txts_at hX)
/-- Of a world only these blocks have turned. -/
structure Jv.Off (lo hi : Nat) (w w' : World) : Prop where
  os : w'.os = w.os
  tape : w'.tape = w.tape
  output : w'.output = w.output
  size : w'.heap.size = w.heap.size
  block : ∀ g : Nat, ¬ (lo ≤ g ∧ g < hi) → w'.heap[g]? = w.heap[g]?
theorem Jv.Off.refl (lo hi : Nat) (w : World) : Jv.Off lo hi w w := ⟨rfl, rfl, rfl, rfl, fun _ _ => rfl⟩
theorem Jv.Off.same {lo hi : Nat} {w w1 w2 : World} (h : Jv.Off lo hi w w1) (h1 : w2.heap = w1.heap) (h2 : w2.os = w1.os) (h3 : w2.tape = w1.tape) (h4 : w2.output = w1.output) : Jv.Off lo hi w w2 :=
  ⟨h2.trans h.os, h3.trans h.tape, h4.trans h.output, by rw [h1]; exact h.size, fun g hg => by rw [h1]; exact h.block g hg⟩
theorem Jv.Off.set {lo hi : Nat} {w w1 : World} (h : Jv.Off lo hi w w1) {g i : Nat} {X : Value} (h1 : lo ≤ g) (h2 : g < hi) : Jv.Off lo hi w (w1.setCell ⟨g, i, none⟩ X) :=
  ⟨h.os, h.tape, h.output, by simpa using h.size, fun k hk => (Below.heap_setCell w1 ⟨g, i, none⟩ X k (by show k ≠ g; rintro rfl; exact hk ⟨h1, h2⟩)).trans (h.block k hk)⟩
theorem Jv.Off.below {lo hi : Nat} {w w1 : World} (h : Jv.Off lo hi w w1) : Below lo w w1 := ⟨h.os, h.tape, h.output, by rw [h.size]; exact Nat.le_refl _, fun k hk => h.block k (by omega)⟩
/-- A copy of a row: 'append([]string{}, a...)'. -/
theorem Tryz.app_copy {ops : Array Oper} {rest : List Oper} {o : Oper} {a : Act} {Q : Exit → Act → World → Prop} (hgd : o.guard = none) (s x : Operand)
    (ho : o.op = .call { callee := .builtin .append, args := #[s, x], argTypes := #[34, 34] })
    (w : World) (hs : a.eval s = .slice (some ⟨w.heap.size, 0, none⟩) 0 0) (v : Value) (hx : a.eval x = v) (lo hi : Nat) (l : List ByteArray) (hO : Tryz.Own w v lo hi l) (hnil : l = [] → v = .slice none 0 0) (hl : l.length ≤ 1000000)
    (h : ∀ v' w', Jv.Rr w' v' l (fun g => w.heap.size ≤ g) → Below w.heap.size w w' → wpList Tryz.prog ops Q rest (a.put o.dst v') w') : wpList Tryz.prog ops Q (o :: rest) a (w.alloc (.cells #[] 9)) := by
  obtain ⟨i0, hi0, hz0, hz1, hz2⟩ := info_parts Tryz.info_str
  have hb0 := (Below.refl w.heap.size w).alloc (Nat.le_refl _) (.cells #[] 9)
  rcases hO.row.2 with ⟨h1, h2⟩ | ⟨g, cap, cur, h1, hb, hg, _⟩
  · have hown : (w.alloc (.cells #[] 9)).ownsRow w.heap.size 9 1 (.slice (some ⟨w.heap.size, 0, none⟩) 0 0) 0 [] := World.ownsRow_lit w #[] 0 (Nat.le_refl _) (by unfold maxLen; omega) rfl
    refine wpList_append_own_none hgd s x 34 ho w.heap.size 9 i0 1 Tryz.underlying34 hi0 _ 0 [] hs hown (hx.trans h1) ?_
    have hl0 := List.eq_nil_of_length_eq_zero h2
    subst hl0
    exact h _ _ ⟨_, 0, rfl, .inl rfl⟩ hb0
  · have hpos : 0 < l.length ∨ l.length = 0 := by omega
    have hglt := (Array.getElem?_eq_some_iff.1 hg).1
    rcases hpos with hpos | h0
    · refine wpList_append_grows _ hgd s x 34 ho 9 i0 _ 1 16 Tryz.underlying34 hi0 hz0 hz1 hz2 rfl (by omega) (some ⟨w.heap.size, 0, none⟩) 0 0 [] hs (by simp) rfl (fun b _ j u hj => by simp at hj) ⟨g, 0, none⟩ l.length cap (Jv.txts l) (hx.trans h1) (by rw [Jv.txts_len]; omega) (fun j u hj => ?_) (fun u hu => by obtain ⟨X, _, rfl⟩ := List.mem_map.1 hu; rfl) (by omega) (by unfold maxLen; omega) (by omega) ?_
      · have hadd : (⟨g, 0, none⟩ : Addr).add j = ⟨g, j, none⟩ := by unfold Addr.add; split <;> simp_all
        rw [hadd, hb0.cell (p := ⟨g, j, none⟩) hglt]
        have hj' := (List.getElem?_eq_some_iff.1 hj).1
        rw [Jv.txts_len] at hj'
        subst h1
        rw [hO.row.cellAt j (by omega)]; exact hj
      · intro v' w' hown hgr
        rw [List.nil_append, Nat.zero_add] at hown
        have hbb : Below w.heap.size w w' := hb0.grown hgr (by simp) (fun k hk => by cases hk)
        refine h v' w' ?_ hbb
        obtain ⟨g', cap', rfl, hb', hlt'⟩ := hown.form hpos
        refine ⟨_, cap', rfl, .inr ⟨g', rfl, by simp at hb'; omega, hlt', fun j X hX => ?_⟩⟩
        have hj := (List.getElem?_eq_some_iff.1 hX).1
        exact (hown.cellAt j (by omega)).trans (Jv.txts_at hX)
    · have := hnil (List.eq_nil_of_length_eq_zero h0)
      rw [h1] at this; simp at this
/-- A row that is owned, grown: it stays as it was. -/
theorem Tryz.app_more {ops : Array Oper} {rest : List Oper} {o : Oper} {a : Act} {Q : Exit → Act → World → Prop} (hgd : o.guard = none) (s x : Operand)
    (ho : o.op = .call { callee := .builtin .append, args := #[s, x], argTypes := #[34, 34] })
    (w : World) (v : Value) (hs : a.eval s = v) (m : Nat) (hx : a.eval x = .slice (some ⟨w.heap.size, 0, none⟩) m m) (lo hi : Nat) (l news : List ByteArray) (hO : Tryz.Own w v lo hi l) (hl : l.length ≤ 1000000) (hm : news.length = m) (hm0 : 0 < m) (hm1 : m ≤ 1000)
    (h : ∀ v' w', Jv.Rr w' v' (l ++ news) (fun g => (lo ≤ g ∧ g < hi) ∨ w.heap.size ≤ g) → Tryz.Own w' v lo hi l → w.heap.size ≤ w'.heap.size → w'.os = w.os → w'.tape = w.tape → w'.output = w.output → (∀ k, k < w.heap.size → ¬ (lo ≤ k ∧ k < hi) → w'.heap[k]? = w.heap[k]?) → wpList Tryz.prog ops Q rest (a.put o.dst v') w') :
    wpList Tryz.prog ops Q (o :: rest) a (w.alloc (.cells (Jv.txts news).toArray 9)) := by
  obtain ⟨i0, hi0, hz0, hz1, hz2⟩ := info_parts Tryz.info_str
  have hb0 := (Below.refl w.heap.size w).alloc (Nat.le_refl _) (.cells (Jv.txts news).toArray 9)
  have hnl : (Jv.txts news).length = m * 1 := by rw [Jv.txts_len]; omega
  have hnc : ∀ (j : Nat) u, (Jv.txts news)[j]? = some u → (w.alloc (.cells (Jv.txts news).toArray 9)).cell? ((⟨w.heap.size, 0, none⟩ : Addr).add j) = some u := World.news_of_block (cs := (Jv.txts news).toArray) (t := 9) (fr := (0, 0)) (heap_alloc_new w _)
  have hone : ∀ u ∈ Jv.txts news, u.oneCell' = true := fun u hu => by obtain ⟨X, _, rfl⟩ := List.mem_map.1 hu; rfl
  have hsz : (w.alloc (.cells (Jv.txts news).toArray 9)).heap.size = w.heap.size + 1 := by simp
  have hta : Jv.txts l ++ Jv.txts news = Jv.txts (l ++ news) := by simp [Jv.txts]
  have hOa : Tryz.Own (w.alloc (.cells (Jv.txts news).toArray 9)) v lo hi l := hO.keep (fun g _ h2 => Below.heap_alloc w _ g (Nat.lt_of_lt_of_le h2 hO.siz)) hb0.size
  -- a row that was laid anew
  have fresh : ∀ v' w', w'.ownsRow (w.alloc (.cells (Jv.txts news).toArray 9)).heap.size 9 1 v' (l.length + m) (Jv.txts l ++ Jv.txts news) → (w.alloc (.cells (Jv.txts news).toArray 9)).grownBy w' none → wpList Tryz.prog ops Q rest (a.put o.dst v') w' := by
    intro v' w' hown hgr
    have hbb : Below w.heap.size w w' := hb0.grown hgr (by simp) (fun k hk => by cases hk)
    refine h v' w' ?_ (hO.keep (fun g _ h2 => hbb.block g (Nat.lt_of_lt_of_le h2 hO.siz)) hbb.size) hbb.size hbb.os hbb.tape hbb.output (fun k hk _ => hbb.block k hk)
    obtain ⟨g', cap', rfl, hb', hlt'⟩ := hown.form (by omega)
    refine ⟨_, cap', by rw [List.length_append, hm], .inr ⟨g', rfl, .inr (by omega), hlt', fun j X hX => ?_⟩⟩
    have hj := (List.getElem?_eq_some_iff.1 hX).1
    rw [List.length_append, hm] at hj
    rw [hown.cellAt j (by omega), hta]
    exact Jv.txts_at hX
  rcases hO.row.2 with ⟨h1, h2⟩ | ⟨g, cap, cur, h1, hb, hg, hcap, _⟩
  · have hl0 := List.eq_nil_of_length_eq_zero h2
    subst hl0
    exact wpList_append_grows _ hgd s x 34 ho 9 i0 _ 1 16 Tryz.underlying34 hi0 hz0 hz1 hz2 rfl (by omega) none 0 0 [] (hs.trans h1) (by simp) rfl (fun b hb => by cases hb) ⟨w.heap.size, 0, none⟩ m m (Jv.txts news) hx hnl hnc hone (by omega) (by unfold maxLen; omega) (by omega) fresh
  · have hglt := (Array.getElem?_eq_some_iff.1 hg).1
    have hghi := hO.blk g (by rw [h1]; rfl)
    by_cases hfit : l.length + m ≤ cap
    · have hown0 := hOa.row
      rw [h1] at hown0
      refine wpList_append_fits _ hgd s x 34 ho lo 9 i0 1 Tryz.underlying34 hi0 hz1 g l.length cap (Jv.txts l) (hs.trans h1) hown0 ⟨w.heap.size, 0, none⟩ m m (Jv.txts news) hx hnl hnc hone hfit ?_
      intro w' hown hgr
      have hsw := hgr.size
      have hblk : ∀ k, k < w.heap.size → k ≠ g → w'.heap[k]? = w.heap[k]? := fun k hk hne => (hgr.block k (by omega) (fun e => hne (Option.some.inj e))).trans (Below.heap_alloc w _ k hk)
      refine h _ w' ⟨_, cap, by rw [List.length_append, hm], .inr ⟨g, rfl, .inl ⟨hb, hghi⟩, by omega, fun j X hX => ?_⟩⟩ ?_ (by omega) hgr.os hgr.tape hgr.output (fun k hk hno => hblk k hk (fun e => hno (e ▸ ⟨hb, hghi⟩)))
      · have hj := (List.getElem?_eq_some_iff.1 hX).1
        rw [List.length_append, hm] at hj
        rw [hown.cellAt j (by omega), hta]
        exact Jv.txts_at hX
      · refine ⟨⟨by rw [Jv.txts_len]; omega, .inr ?_⟩, hO.blk, by have := hO.siz; omega⟩
        rcases hown.2 with ⟨e, _⟩ | ⟨g', cap', cur', e, hb', hg', hc', hm', hz', ht'⟩
        · cases e
        · cases e
          refine ⟨g, cap, cur', h1, hb, hg', hcap, hm', hz', ?_⟩
          have := congrArg (List.take (l.length * 1)) ht'
          rw [List.take_take, Nat.min_eq_left (by omega)] at this
          rw [this, List.take_left' (by rw [Jv.txts_len]; omega)]
    · refine wpList_append_grows _ hgd s x 34 ho 9 i0 _ 1 16 Tryz.underlying34 hi0 hz0 hz1 hz2 rfl (by omega) (some ⟨g, 0, none⟩) l.length cap (Jv.txts l) (hs.trans h1) (by simp) (by rw [Jv.txts_len]; omega) (fun b hb j u hj => ?_) ⟨w.heap.size, 0, none⟩ m m (Jv.txts news) hx hnl hnc hone (by omega) (by unfold maxLen; omega) (by omega) fresh
      cases hb
      have hadd : (⟨g, 0, none⟩ : Addr).add j = ⟨g, j, none⟩ := by unfold Addr.add; split <;> simp_all
      rw [hadd]
      have hj' := (List.getElem?_eq_some_iff.1 hj).1
      rw [Jv.txts_len] at hj'
      have hown0 := hOa.row
      rw [h1] at hown0
      rw [hown0.cellAt j (by omega)]; exact hj
theorem Tryz.app_copy' {ops : Array Oper} {rest : List Oper} {o : Oper} {a : Act} {Q : Exit → Act → World → Prop} (hgd : o.guard = none) (s x : Operand)
    (ho : o.op = .call { callee := .builtin .append, args := #[s, x], argTypes := #[34, 34] })
    (w : World) (hs : a.eval s = .slice (some ⟨w.heap.size, 0, none⟩) 0 0) (v : Value) (hx : a.eval x = v) (lo hi : Nat) (l : List ByteArray) (hO : Tryz.Own w v lo hi l) (hnil : l = [] → v = .slice none 0 0) (hl : l.length ≤ 1000000)
    (h : ∀ ax cx w', Jv.Rr w' (.slice ax l.length cx) l (fun g => w.heap.size ≤ g) → Below w.heap.size w w' → wpList Tryz.prog ops Q rest (a.put o.dst (.slice ax l.length cx)) w') : wpList Tryz.prog ops Q (o :: rest) a (w.alloc (.cells #[] 9)) :=
  Tryz.app_copy hgd s x ho w hs v hx lo hi l hO hnil hl fun v' w' hr hb => by
    have hr2 := hr
    obtain ⟨ax, cx, rfl, _⟩ := hr
    exact h ax cx w' hr2 hb
theorem Tryz.app_more' {ops : Array Oper} {rest : List Oper} {o : Oper} {a : Act} {Q : Exit → Act → World → Prop} (hgd : o.guard = none) (s x : Operand)
    (ho : o.op = .call { callee := .builtin .append, args := #[s, x], argTypes := #[34, 34] })
    (w : World) (v : Value) (hs : a.eval s = v) (m : Nat) (hx : a.eval x = .slice (some ⟨w.heap.size, 0, none⟩) m m) (lo hi : Nat) (l news : List ByteArray) (n : Nat) (hn : l.length = n) (hO : Tryz.Own w v lo hi l) (hl : n ≤ 1000000) (hm : news.length = m) (hm0 : 0 < m) (hm1 : m ≤ 1000)
    (h : ∀ ax cx w', Jv.Rr w' (.slice ax (n + m) cx) (l ++ news) (fun g => (lo ≤ g ∧ g < hi) ∨ w.heap.size ≤ g) → Tryz.Own w' v lo hi l → Below lo w w' → (∀ k, k < w.heap.size → ¬ (lo ≤ k ∧ k < hi) → w'.heap[k]? = w.heap[k]?) → wpList Tryz.prog ops Q rest (a.put o.dst (.slice ax (n + m) cx)) w') (hlo : lo ≤ w.heap.size) :
    wpList Tryz.prog ops Q (o :: rest) a (w.alloc (.cells (Jv.txts news).toArray 9)) :=
  Tryz.app_more hgd s x ho w v hs m hx lo hi l news hO (by omega) hm hm0 hm1 fun v' w' hr hO' h1 h2 h3 h4 h5 => by
    have hr2 := hr
    obtain ⟨ax, cx, rfl, _⟩ := hr
    have e : (l ++ news).length = n + m := by rw [List.length_append]; omega
    rw [e] at hr2 ⊢
    exact h ax cx w' hr2 hO' ⟨h2, h3, h4, h1, fun k hk => h5 k (by omega) (by omega)⟩ h5
theorem Tryz.Own.off {w w' : World} {v : Value} {lo hi lo' hi' : Nat} {l : List ByteArray} (h : Tryz.Own w v lo hi l) (ho : Jv.Off lo' hi' w w') (hd : hi ≤ lo' ∨ hi' ≤ lo) : Tryz.Own w' v lo hi l :=
  h.keep (fun g h1 h2 => ho.block g (by omega)) (by rw [ho.size]; exact Nat.le_refl _)
theorem Jv.Rr.off {w w' : World} {v : Value} {lo' hi' : Nat} {l : List ByteArray} {ok : Nat → Prop} (h : Jv.Rr w v l ok) (ho : Jv.Off lo' hi' w w') (hd : ∀ g, ok g → ¬ (lo' ≤ g ∧ g < hi')) : Jv.Rr w' v l ok :=
  h.keep (fun g h1 _ => ho.block g (hd g h1)) (by rw [ho.size]; exact Nat.le_refl _)
theorem Jv.rep_at {l : List ByteArray} {k : Nat} (F : ByteArray) (_h : k < l.length) : (List.replicate k F ++ l.drop k)[k]? = l[k]? := by
  rw [List.getElem?_append_right (by simp)]; simp
theorem Jv.rep_set {l : List ByteArray} {k : Nat} (F : ByteArray) (h : k < l.length) : (List.replicate k F ++ l.drop k).set k F = List.replicate (k + 1) F ++ l.drop (k + 1) := by
  rw [List.set_append_right _ _ (by simp)]
  simp only [List.length_replicate, Nat.sub_self]
  rw [List.drop_eq_getElem_cons h, List.set_cons_zero, List.replicate_succ', List.append_assoc]
  rfl
theorem Jv.rep_full {l : List ByteArray} {k : Nat} (F : ByteArray) (h : k = l.length) : List.replicate k F ++ l.drop k = List.replicate l.length F := by
  subst h; simp
theorem Jv.rep_len {l : List ByteArray} {k : Nat} (F : ByteArray) (h : k ≤ l.length) : (List.replicate k F ++ l.drop k).length = l.length := by simp; omega
theorem Jv.rep_get {n k : Nat} (F : ByteArray) (h : k < n) : (List.replicate n F)[k]? = some F := by simp [h]
end Go.Proofs
namespace Go.Jv
theorem pathF_len (s : ByteArray) : ∀ (n p : Nat) (parts : List ByteArray) (part : List UInt8) (l : List ByteArray), pathF s n p parts part = .ok l → 0 < l.length ∧ l.length ≤ parts.length + n + 1 := by
  intro n
  induction n with
  | zero =>
    intro p parts part l h
    rw [pathF] at h; injection h with h; subst h; simp
  | succ n ih =>
    intro p parts part l h
    by_cases hp : p < s.size
    · rw [pathF_step s n p parts part hp] at h
      split at h
      · cases h
      · split at h
        · have := ih _ _ _ _ h; simp at this ⊢; omega
        · split at h
          · have := ih _ _ _ _ h; omega
          · split at h
            · cases h
            · have := ih _ _ _ _ h; omega
    · rw [pathF_end s (n + 1) p parts part hp] at h; injection h with h; subst h; simp
/-- The parts of a path, none where it is wrong. -/
def lst (s : ByteArray) : List ByteArray := match path s with
  | .ok l => l
  | .bad _ _ => []
theorem lst_ok {s : ByteArray} {l : List ByteArray} (h : path s = .ok l) : lst s = l ∧ 0 < l.length ∧ l.length ≤ 1000 := by
  refine ⟨by unfold lst; rw [h], ?_⟩
  unfold path at h
  split at h
  · cases h
  · have := pathF_len s _ _ _ _ _ h
    simp at this; omega
theorem lst_bad {s : ByteArray} {p e : Nat} (h : path s = .bad p e) : lst s = [] := by unfold lst; rw [h]
end Go.Jv
namespace Go.Proofs
open Go.RowKit Go.Jv
def Tryz.EvOk (l : List ByteArray) (ev : Value) : Prop := (0 < l.length ∧ ev = .nilIface) ∨ (l.length = 0 ∧ ∃ y, ev = .iface 88 (.pointer (some ⟨y, 0, none⟩)))
theorem Tryz.path_own (s : ByteArray) (hs : s.size ≤ 140737488355328) (w : World) (hT : Tryz.Tb w) :
    Calls Tryz.prog 26 #[.string s] w fun en w' => ∃ a c ev, en = .returned (.tuple #[.slice a (lst s).length c, ev]) ∧ Tryz.Own w' (.slice a (lst s).length c) w.heap.size w'.heap.size (lst s) ∧ (lst s = [] → Value.slice a (lst s).length c = .slice none 0 0) ∧ (lst s).length ≤ 1000 ∧ Below w.heap.size w w' ∧ Tryz.EvOk (lst s) ev := by
  refine (Tryz.path_any s hs w hT).mono fun en w' h => ?_
  rcases h with ⟨l, v, h1, h2, h3, h4⟩ | ⟨p, e, y, h1, h2, -, -, -, h4⟩
  · obtain ⟨e1, e2, e3⟩ := lst_ok h1
    rw [e1]
    obtain ⟨g, c, rfl, hb, hlt⟩ := h3.form e2
    exact ⟨_, c, _, h2, ⟨h3, fun k hk => by simp [Value.ownBlock] at hk; omega, Nat.le_refl _⟩, fun e => by rw [e] at e2; simp at e2, e3, h4, .inl ⟨e2, rfl⟩⟩
  · rw [lst_bad h1]
    exact ⟨none, 0, _, h2, ⟨⟨rfl, .inl ⟨rfl, rfl⟩⟩, fun k hk => by simp [Value.ownBlock] at hk, Nat.le_refl _⟩, fun _ => rfl, by simp, h4, .inr ⟨rfl, y, rfl⟩⟩
theorem Jv.same_below {w W : World} (h1 : W.heap = w.heap) (h2 : W.os = w.os) (h3 : W.tape = w.tape) (h4 : W.output = w.output) : Below w.heap.size w W :=
  ⟨h2, h3, h4, by rw [h1]; exact Nat.le_refl _, fun k _ => by rw [h1]⟩
theorem Jv.same0 {w w' : World} (h : Jv.Off 0 0 w w') : Below w.heap.size w w' := ⟨h.os, h.tape, h.output, by rw [h.size]; exact Nat.le_refl _, fun k _ => h.block k (by omega)⟩
end Go.Proofs
namespace Go.Proofs
open Go.RowKit Go.Jv
theorem Jv.rep_app (n m : Nat) (mk : ByteArray) : List.replicate n mk ++ List.replicate m mk = List.replicate (n + m) mk := by simp
set_option maxHeartbeats 1000000 in
theorem Tryz.app_mark {ops : Array Oper} {rest : List Oper} {o : Oper} {a : Act} {Q : Exit → Act → World → Prop} (hgd : o.guard = none) (s x : Operand)
    (ho : o.op = .call { callee := .builtin .append, args := #[s, x], argTypes := #[34, 34] })
    (w : World) (v : Value) (hs : a.eval s = v) (m : Nat) (hx : a.eval x = .slice (some ⟨w.heap.size, 0, none⟩) m m) (lo hi n : Nat) (mk : ByteArray) (hO : Tryz.Own w v lo hi (List.replicate n mk)) (hl : n ≤ 1000000) (hm0 : 0 < m) (hm1 : m ≤ 1000) (hlo : lo ≤ w.heap.size)
    (h : ∀ ax cx w', Jv.Rr w' (.slice ax (n + m) cx) (List.replicate (n + m) mk) (fun _ => True) → Tryz.Own w' v lo hi (List.replicate n mk) → Below lo w w' → (∀ v' k, k ≤ n + m → Jv.Rr w v' (List.replicate k mk) (fun _ => True) → Jv.Rr w' v' (List.replicate k mk) (fun _ => True)) → wpList Tryz.prog ops Q rest (a.put o.dst (.slice ax (n + m) cx)) w') :
    wpList Tryz.prog ops Q (o :: rest) a (w.alloc (.cells (Jv.txts (List.replicate m mk)).toArray 9)) := by
  obtain ⟨i0, hi0, hz0, hz1, hz2⟩ := info_parts Tryz.info_str
  have hln : (List.replicate n mk).length = n := by simp
  have hb0 := (Below.refl w.heap.size w).alloc (Nat.le_refl _) (.cells (Jv.txts (List.replicate m mk)).toArray 9)
  have hnl : (Jv.txts (List.replicate m mk)).length = m * 1 := by rw [Jv.txts_len]; simp
  have hnc : ∀ (j : Nat) u, (Jv.txts (List.replicate m mk))[j]? = some u → (w.alloc (.cells (Jv.txts (List.replicate m mk)).toArray 9)).cell? ((⟨w.heap.size, 0, none⟩ : Addr).add j) = some u := World.news_of_block (cs := (Jv.txts (List.replicate m mk)).toArray) (t := 9) (fr := (0, 0)) (heap_alloc_new w _)
  have hone : ∀ u ∈ Jv.txts (List.replicate m mk), u.oneCell' = true := fun u hu => by obtain ⟨X, _, rfl⟩ := List.mem_map.1 hu; rfl
  have hsz : (w.alloc (.cells (Jv.txts (List.replicate m mk)).toArray 9)).heap.size = w.heap.size + 1 := by simp
  have hta : Jv.txts (List.replicate n mk) ++ Jv.txts (List.replicate m mk) = Jv.txts (List.replicate (n + m) mk) := by rw [← Jv.rep_app]; simp [Jv.txts]
  have hOa : Tryz.Own (w.alloc (.cells (Jv.txts (List.replicate m mk)).toArray 9)) v lo hi (List.replicate n mk) := hO.keep (fun g _ h2 => Below.heap_alloc w _ g (Nat.lt_of_lt_of_le h2 hO.siz)) hb0.size
  have fresh : ∀ v' w', w'.ownsRow (w.alloc (.cells (Jv.txts (List.replicate m mk)).toArray 9)).heap.size 9 1 v' (n + m) (Jv.txts (List.replicate n mk) ++ Jv.txts (List.replicate m mk)) → (w.alloc (.cells (Jv.txts (List.replicate m mk)).toArray 9)).grownBy w' none → wpList Tryz.prog ops Q rest (a.put o.dst v') w' := by
    intro v' w' hown hgr
    have hbb : Below w.heap.size w w' := hb0.grown hgr (by simp) (fun k hk => by cases hk)
    obtain ⟨g', cap', rfl, hb', hlt'⟩ := hown.form (by omega)
    refine h _ _ w' ⟨_, cap', by simp, .inr ⟨g', rfl, trivial, hlt', fun j X hX => ?_⟩⟩ (hO.keep (fun g _ h2 => hbb.block g (Nat.lt_of_lt_of_le h2 hO.siz)) hbb.size) (hbb.mono hlo) (fun v' k _ hr => hr.keep (fun g _ hg => hbb.block g hg) hbb.size)
    have hj := (List.getElem?_eq_some_iff.1 hX).1
    simp at hj
    rw [hown.cellAt j (by omega), hta]
    exact Jv.txts_at hX
  rcases hO.row.2 with ⟨h1, h2⟩ | ⟨g, cap, cur, h1, hb, hg, hcap, _⟩
  · rw [hln] at h2
    subst h2
    exact wpList_append_grows _ hgd s x 34 ho 9 i0 _ 1 16 Tryz.underlying34 hi0 hz0 hz1 hz2 rfl (by omega) none 0 0 [] (hs.trans h1) (by simp) rfl (fun b hb => by cases hb) ⟨w.heap.size, 0, none⟩ m m (Jv.txts (List.replicate m mk)) hx hnl hnc hone (by omega) (by unfold maxLen; omega) (by omega) fresh
  · have hglt := (Array.getElem?_eq_some_iff.1 hg).1
    have hghi := hO.blk g (by rw [h1]; rfl)
    have hown0 := hOa.row
    rw [h1, hln] at hown0
    rw [hln] at h1 hcap
    by_cases hfit : n + m ≤ cap
    · refine wpList_append_fits _ hgd s x 34 ho lo 9 i0 1 Tryz.underlying34 hi0 hz1 g n cap (Jv.txts (List.replicate n mk)) (hs.trans h1) hown0 ⟨w.heap.size, 0, none⟩ m m (Jv.txts (List.replicate m mk)) hx hnl hnc hone hfit ?_
      intro w' hown hgr
      have hsw := hgr.size
      have hblk : ∀ k, k < w.heap.size → k ≠ g → w'.heap[k]? = w.heap[k]? := fun k hk hne => (hgr.block k (by omega) (fun e => hne (Option.some.inj e))).trans (Below.heap_alloc w _ k hk)
      have hcells : ∀ j, j < n + m → w'.cell? ⟨g, j, none⟩ = some (.string mk) := fun j hj => by
        rw [hown.cellAt j (by omega), hta]
        exact Jv.txts_at (X := mk) (by rw [List.getElem?_replicate, if_pos hj])
      refine h _ _ w' ⟨_, cap, by simp, .inr ⟨g, rfl, trivial, by omega, fun j X hX => ?_⟩⟩ ?_ ⟨hgr.os, hgr.tape, hgr.output, by omega, fun k hk => hblk k (by omega) (by omega)⟩ (fun v' k hk hr => ?_)
      · have hj := (List.getElem?_eq_some_iff.1 hX).1
        rw [List.length_replicate] at hj
        rw [List.getElem?_replicate, if_pos hj] at hX
        rw [hcells j hj, Option.some.inj hX]
      · refine ⟨⟨by rw [Jv.txts_len]; simp, .inr ?_⟩, hO.blk, by have := hO.siz; omega⟩
        rcases hown.2 with ⟨e, _⟩ | ⟨g', cap', cur', e, hb', hg', hc', hm', hz', ht'⟩
        · cases e
        · cases e
          refine ⟨g, cap, cur', by rw [hln]; exact h1, hb, hg', by rw [hln]; exact hcap, hm', hz', ?_⟩
          have := congrArg (List.take (n * 1)) ht'
          rw [List.take_take, Nat.min_eq_left (by omega)] at this
          rw [hln, this, List.take_left' (by rw [Jv.txts_len]; simp)]
      · obtain ⟨a2, c2, e2, hr2⟩ := hr
        refine ⟨a2, c2, e2, ?_⟩
        rcases hr2 with hr2 | ⟨g2, e3, -, hg2, hc2⟩
        · exact .inl hr2
        · refine .inr ⟨g2, e3, trivial, by omega, fun j X hX => ?_⟩
          by_cases hgg : g2 = g
          · subst hgg
            have hj := (List.getElem?_eq_some_iff.1 hX).1
            rw [List.length_replicate] at hj
            rw [List.getElem?_replicate, if_pos hj] at hX
            rw [hcells j (by omega), Option.some.inj hX]
          · rw [World.cell?_of_block (a := ⟨g2, j, none⟩) (hblk g2 hg2 hgg)]
            exact hc2 j X hX
    · refine wpList_append_grows _ hgd s x 34 ho 9 i0 _ 1 16 Tryz.underlying34 hi0 hz0 hz1 hz2 rfl (by omega) (some ⟨g, 0, none⟩) n cap (Jv.txts (List.replicate n mk)) (hs.trans h1) (by simp) (by rw [Jv.txts_len]; simp) (fun b hb j u hj => ?_) ⟨w.heap.size, 0, none⟩ m m (Jv.txts (List.replicate m mk)) hx hnl hnc hone (by omega) (by unfold maxLen; omega) (by omega) fresh
      cases hb
      have hadd : (⟨g, 0, none⟩ : Addr).add j = ⟨g, j, none⟩ := by unfold Addr.add; split <;> simp_all
      rw [hadd]
      have hj' := (List.getElem?_eq_some_iff.1 hj).1
      rw [Jv.txts_len, hln] at hj'
      rw [hown0.cellAt j (by omega)]; exact hj
end Go.Proofs
namespace Go.Jv
theorem pathF_bad (s : ByteArray) : ∀ (n p : Nat) (parts : List ByteArray) (part : List UInt8) (q e : Nat), pathF s n p parts part = .bad q e → e ≠ 0 := by
  intro n
  induction n with
  | zero =>
    intro p parts part q e h
    rw [pathF] at h; cases h
  | succ n ih =>
    intro p parts part q e h
    by_cases hp : p < s.size
    · rw [pathF_step s n p parts part hp] at h
      split at h
      · injection h with h1 h2; omega
      · split at h
        · exact ih _ _ _ _ _ h
        · split at h
          · exact ih _ _ _ _ _ h
          · split at h
            · injection h with h1 h2; omega
            · exact ih _ _ _ _ _ h
    · rw [pathF_end s (n + 1) p parts part hp] at h; cases h
theorem path_ne {s : ByteArray} {q e : Nat} (h : path s = .bad q e) : e ≠ 0 := by
  unfold path at h
  split at h
  · injection h with h1 h2; omega
  · exact pathF_bad s _ _ _ _ _ _ h
/-- Where a path is wrong, and how; noughts where it is not. -/
def pP (s : ByteArray) : Nat := match path s with
  | .ok _ => 0
  | .bad p _ => p
def pE (s : ByteArray) : Nat := match path s with
  | .ok _ => 0
  | .bad _ e => e
end Go.Jv
namespace Go.Proofs
open Go.RowKit Go.Jv
/-- The error that 'Path' gives. -/
inductive Tryz.EvP (s : ByteArray) (w : World) (ev : Value) : Prop
  | good (l : List ByteArray) (h : path s = .ok l) (he : ev = .nilIface)
  | wrong (p e y : Nat) (h : path s = .bad p e) (he : ev = .iface 88 (.pointer (some ⟨y, 0, none⟩))) (c0 : w.cell? ⟨y, 0, none⟩ = some (.int .i64 (p : Nat))) (c1 : w.cell? ⟨y, 1, none⟩ = some (.int .i64 (e : Nat))) (hy : y < w.heap.size)
theorem Tryz.EvP.below {s : ByteArray} {w w' : World} {ev : Value} (h : Tryz.EvP s w ev) (hb : Below w.heap.size w w') : Tryz.EvP s w' ev := by
  cases h with
  | good l h he => exact .good l h he
  | wrong p e y h he c0 c1 hy => exact .wrong p e y h he ((hb.cell (p := ⟨y, 0, none⟩) hy).trans c0) ((hb.cell (p := ⟨y, 1, none⟩) hy).trans c1) (Nat.lt_of_lt_of_le hy hb.size)
theorem Tryz.fault_ev (s : ByteArray) (w : World) (ev : Value) (h : Tryz.EvP s w ev) :
    Calls Tryz.prog 22 #[ev] w fun en w' => en = .returned (.tuple #[.int .i64 (pP s : Nat), .int .i64 (pE s : Nat), .bool true]) ∧ Jv.Off 0 0 w w' := by
  cases h with
  | good l h he =>
    subst he
    refine (Tryz.lawFault_nil w).mono fun en w' ⟨h1, h2⟩ => ⟨?_, ?_⟩
    · rw [h1]; unfold pP pE; rw [h]; rfl
    · subst h2; exact Jv.Off.refl _ _ _
  | wrong p e y h he c0 c1 hy =>
    subst he
    refine (Tryz.lawFault_some w y p e c0 c1 (path_ne h)).mono fun en w' ⟨h1, n, h2⟩ => ⟨?_, ?_⟩
    · rw [h1]; unfold pP pE; rw [h]
    · subst h2; exact (Jv.Off.refl 0 0 w).same rfl rfl rfl rfl
theorem Tryz.path_evp (s : ByteArray) (hs : s.size ≤ 140737488355328) (w : World) (hT : Tryz.Tb w) :
    Calls Tryz.prog 26 #[.string s] w fun en w' => ∃ a c ev, en = .returned (.tuple #[.slice a (lst s).length c, ev]) ∧ Tryz.Own w' (.slice a (lst s).length c) w.heap.size w'.heap.size (lst s) ∧ (lst s).length ≤ 1000 ∧ Below w.heap.size w w' ∧ Tryz.EvP s w' ev := by
  refine (Tryz.path_any s hs w hT).mono fun en w' h => ?_
  rcases h with ⟨l, v, h1, h2, h3, h4⟩ | ⟨p, e, y, h1, h2, c0, c1, hy, h4⟩
  · obtain ⟨e1, e2, e3⟩ := lst_ok h1
    rw [e1]
    obtain ⟨g, c, rfl, hb, hlt⟩ := h3.form e2
    exact ⟨_, c, _, h2, ⟨h3, fun k hk => by simp [Value.ownBlock] at hk; omega, Nat.le_refl _⟩, e3, h4, .good l h1 rfl⟩
  · rw [lst_bad h1]
    refine ⟨none, 0, _, h2, ⟨⟨rfl, .inl ⟨rfl, rfl⟩⟩, fun k hk => by simp [Value.ownBlock] at hk, Nat.le_refl _⟩, by simp, h4, .wrong p e y h1 rfl c0 c1 ?_⟩
    by_cases hlt : y < w'.heap.size
    · exact hlt
    · have hnone : w'.heap[y]? = none := Array.getElem?_eq_none (by omega)
      simp [World.cell?, hnone] at c0
theorem Tryz.refPath_r (s : ByteArray) (hs : s.size ≤ 140737488355328) (w : World) :
    Calls Tryz.prog 27 #[.string s] w fun en w' => ∃ a c, en = .returned (.tuple #[.slice a (lst s).length c, .int .i64 (pP s : Nat), .int .i64 (pE s : Nat)]) ∧ Jv.Rr w' (.slice a (lst s).length c) (lst s) (fun g => w.heap.size ≤ g) ∧ Below w.heap.size w w' := by
  refine (Tryz.refPath_any s hs w).mono fun en w' h => ?_
  rcases h with ⟨l, v, h1, h2, h3, h4⟩ | ⟨p, e, h1, h2, h4⟩
  · obtain ⟨e1, e2, e3⟩ := lst_ok h1
    unfold pP pE
    rw [e1, h1]
    obtain ⟨g, c, rfl, hb, hlt⟩ := h3.form e2
    have hr := Tryz.Own.rr (hi := w'.heap.size) ⟨h3, fun k hk => by simp [Value.ownBlock] at hk; omega, Nat.le_refl _⟩
    exact ⟨_, c, h2, hr.mono (fun g h _ => h.1), h4⟩
  · unfold pP pE
    rw [lst_bad h1, h1]
    exact ⟨none, 0, h2, ⟨none, 0, rfl, .inl rfl⟩, h4⟩
/-- Four rows of one mark. -/
structure Jv.Fours (w : World) (g : Nat) (mk : ByteArray) : Prop where
  lt : g < w.heap.size
  all : ∀ j, j < 4 → ∃ a n c, w.cell? ⟨g, j, none⟩ = some (.slice a n c) ∧ Jv.Rr w (.slice a n c) (List.replicate n mk) (fun _ => True) ∧ n ≤ 2000
theorem Jv.Fours.below {w w' : World} {g : Nat} {mk : ByteArray} (h : Jv.Fours w g mk) (hb : Below w.heap.size w w') : Jv.Fours w' g mk :=
  ⟨Nat.lt_of_lt_of_le h.lt hb.size, fun j hj => by
    obtain ⟨a, n, c, h1, h2, h3⟩ := h.all j hj
    exact ⟨a, n, c, (hb.cell (p := ⟨g, j, none⟩) h.lt).trans h1, h2.keep (fun g _ hg => hb.block g hg) hb.size, h3⟩⟩
set_option maxRecDepth 100000 in
set_option maxHeartbeats 4000000 in
theorem Tryz.paths_any (s : ByteArray) (hs : s.size ≤ 140737488351232) (mk : ByteArray) (w : World) (hT : Tryz.Tb w) :
    Calls Tryz.prog 13 #[.string s, .string mk] w fun en w' => ∃ rv g, en = .returned (.tuple #[rv, .slice (some ⟨g, 0, none⟩) 4 4, .bool true]) ∧ Jv.Fours w' g mk ∧ Below w.heap.size w w' := by
  have hp := Tryz.path_evp s (by omega) w hT
  have hq := fun W => Tryz.refPath_r s (by omega) W
  have hf := fun W ev hW => Tryz.fault_ev s W ev hW
  clear hT
  generalize lst s = l at *
  generalize pP s = P at *
  generalize pE s = E at *
  go_enter Tryz.func13, Tryz.ntmps13
  go_wp2_with (first
    | (go_at_call 26; refine hp.mono ?_; clear hp; rintro e1 w1 ⟨a, c, ev, rfl, o1, hl, hb1, v1⟩)
    | (go_at_call 27; refine (hq _).mono ?_; clear hq; rintro e2 w2 ⟨ar, cr, rfl, r2, hb2⟩; have v2 := v1.below hb2)
    | (go_at_call 22; refine (hf _ _ v2).mono ?_; clear hf v1; rintro e3 w3 ⟨rfl, hb3⟩)
    | fail)
  have z1 := hb1.size
  have z2 := hb2.size
  have oa3 := (o1.keep (fun g _ h => hb2.block g h) hb2.size).off hb3 (.inr (Nat.zero_le _))
  have rr3 := r2.off hb3 (fun g _ h => by omega)
  have hbb := Jv.bthen0 (Jv.bthen0 hb1 hb2) (Jv.same0 hb3)
  clear o1 r2 hb1 hb2 hb3 v2
  have OA : Hid _ := oa3
  have RX : Hid _ := rr3
  clear oa3 rr3
  generalize w1.heap.size = n1 at *
  have z3 := hbb.size
  go_loopw [15] (fun i wr => ∃ k : Nat, k ≤ l.length ∧ i = .int .i64 k ∧ Tryz.Own wr (.slice a l.length c) w.heap.size n1 (List.replicate k mk ++ l.drop k) ∧ Jv.Off w.heap.size n1 w3 wr) (fun i _ => l.length - (intOf i).toNat)
  case atStart => exact ⟨0, by omega, rfl, OA.out, Jv.Off.refl _ _ _⟩
  case round =>
    obtain ⟨k, hk, rfl, ho, hoff⟩ := hrel
    by_cases hlk : k < l.length
    · have q0 : (k : Int) < (l.length : Int) := by omega
      obtain ⟨X, hX⟩ : ∃ X, l[k]? = some X := ⟨_, List.getElem?_eq_getElem hlk⟩
      obtain ⟨ga, rfl, -, hg1, hg2, hg3, c1, f1⟩ := ho.at ((Jv.rep_at mk hlk).trans hX)
      obtain ⟨gc, rfl, -, -, c2⟩ := (RX.out.off hoff (fun g h1 h2 => by omega)).at hX
      have HO : Hid _ := ho
      have HF : Hid _ := hoff
      clear ho hoff hX
      go_wp2_with fail
      go_quiet (fail)
      go_wp2
      go_roundw
      case rel =>
        refine ⟨k + 1, by omega, by go_num, ?_, (HF.out.same (by rfl) (by rfl) (by rfl) (by rfl)).set hg1 hg2⟩
        rw [← Jv.rep_set mk hlk]
        exact (HO.out.keep (w' := wr.drewN _) (fun _ _ _ => rfl) (Nat.le_refl _)).set (Jv.rep_len mk hk).symm k mk
      case measure => simp [intOf]; omega
    · have q0 : ¬ (k : Int) < (l.length : Int) := by omega
      rw [Jv.rep_full mk (by omega)] at ho
      have hbb4 := hbb.trans (hoff.below.mono (Nat.le_refl _))
      have zo := Nat.le_of_eq hoff.size.symm
      clear OA RX hbb hoff
      have OA : Hid _ := ho
      clear ho
      obtain ⟨W7, hW⟩ : ∃ W : World, W = wr := ⟨_, rfl⟩
      subst hW
      have OA7 := OA.out
      clear OA
      go_wp2_with (first
        | (at_builtin; refine Tryz.app_mark rfl _ _ rfl W7 (.slice a l.length c) rfl 1 rfl w.heap.size n1 l.length mk OA7 (by omega) (by omega) (by omega) (by omega) ?_; clear OA7; intro a1 c1 w8 r8 o8 hb8 hk8; have z8 := hb8.size)
        | (at_builtin; refine Tryz.app_mark rfl _ _ rfl w8 (.slice a l.length c) rfl 2 rfl w.heap.size n1 l.length mk o8 (by omega) (by omega) (by omega) (by omega) ?_; clear o8; intro a2 c2 w9 r9 o9 hb9 hk9; have z9 := hb9.size)
        | (at_builtin; refine Tryz.app_mark rfl _ _ rfl w9 (.slice a l.length c) rfl 3 rfl w.heap.size n1 l.length mk o9 (by omega) (by omega) (by omega) (by omega) ?_; clear o9; intro a3 c3 w10 r10 o10 hb10 hk10)
        | fail)
      go_ret3
      have hbz := ((hbb4.trans hb8).trans hb9).trans hb10
      have hba := (Below.refl w10.heap.size w10).alloc (Nat.le_refl _) (.cells #[.slice a l.length c, .slice a1 (l.length + 1) c1, .slice a2 (l.length + 2) c2, .slice a3 (l.length + 3) c3] 34)
      have k0 := (o10.rr.mono (ok' := fun _ => True) (fun _ _ _ => trivial)).keep (fun g _ hg => hba.block g hg) hba.size
      have k1 := (hk10 _ (l.length + 1) (by omega) (hk9 _ (l.length + 1) (by omega) r8)).keep (fun g _ hg => hba.block g hg) hba.size
      have k2 := (hk10 _ (l.length + 2) (by omega) r9).keep (fun g _ hg => hba.block g hg) hba.size
      have k3 := r10.keep (fun g _ hg => hba.block g hg) hba.size
      refine ⟨_, w10.heap.size, rfl, ⟨by simp, fun j hj => ?_⟩, hbz.alloc hbz.size _⟩
      have h4 : j = 0 ∨ j = 1 ∨ j = 2 ∨ j = 3 := by omega
      rcases h4 with rfl | rfl | rfl | rfl
      · exact ⟨_, _, _, cell_of_row _ _ 0 _ _ _ (heap_alloc_new w10 _), k0, by omega⟩
      · exact ⟨_, _, _, cell_of_row _ _ 1 _ _ _ (heap_alloc_new w10 _), k1, by omega⟩
      · exact ⟨_, _, _, cell_of_row _ _ 2 _ _ _ (heap_alloc_new w10 _), k2, by omega⟩
      · exact ⟨_, _, _, cell_of_row _ _ 3 _ _ _ (heap_alloc_new w10 _), k3, by omega⟩
end Go.Proofs
