/-
  keep of lists: what stands between two of its steps.
-/
import Derived.Test.YtghpbagmpgphfaaWqK
import Derived.ArgAppend
namespace Go.Proofs
open Go.RowKit Go.Wi
/-- The block of lists (its cells may lag behind), its two rows, and a row V of N marks m that may yet grow; all in blocks of its own. -/
structure Try.Kp (w : World) (own : Nat → Prop) (b : Nat) (c0 c1 c2 c3 lv : Value) (hs : List Wi.Lh) (mv : Value) (ms : List Int) (V : Value) (N : Nat) (m : Int) : Prop where
  bl : w.heap[b]? = some (.cells #[c0, c1, c2, c3] 33 (0, 0))
  lr : w.ownsRow 0 31 1 lv hs.length (Wi.lvs hs)
  mr : w.ownsRow 0 2 1 mv ms.length (Wi.ics ms)
  vr : w.ownsRow 0 2 1 V N (Wi.ics (List.replicate N m))
  each : ∀ h ∈ hs, Wi.Ns w h.v (List.replicate h.n h.m)
  ob : own b
  ol : ∀ k, lv.ownBlock = some k → own k ∧ k ≠ b
  om : ∀ k, mv.ownBlock = some k → own k ∧ k ≠ b ∧ lv.ownBlock ≠ some k
  ov : ∀ k, V.ownBlock = some k → own k ∧ k ≠ b ∧ lv.ownBlock ≠ some k ∧ mv.ownBlock ≠ some k
  oe : ∀ h ∈ hs, ∀ k, h.v.ownBlock = some k → own k ∧ k ≠ b ∧ lv.ownBlock ≠ some k ∧ mv.ownBlock ≠ some k
  pre : ∀ h ∈ hs, ∀ k, h.v.ownBlock = some k → V.ownBlock = some k → h.m = m ∧ h.n ≤ N ∧ ∃ c, h.v = .slice (some ⟨k, 0, .none⟩) h.n c
  lt : ∀ k, own k → k < w.heap.size
theorem Try.Kp.keep {w w' : World} {own : Nat → Prop} {b : Nat} {c0 c1 c2 c3 lv : Value} {hs : List Wi.Lh} {mv : Value} {ms : List Int} {V : Value} {N : Nat} {m : Int} (h : Try.Kp w own b c0 c1 c2 c3 lv hs mv ms V N m) (hk : ∀ k, own k → w'.heap[k]? = w.heap[k]?) (hsz : w.heap.size ≤ w'.heap.size) : Try.Kp w' own b c0 c1 c2 c3 lv hs mv ms V N m :=
  ⟨(hk b h.ob).trans h.bl, Wi.row_heap h.lr fun k e => hk k (h.ol k e).1, Wi.row_heap h.mr fun k e => hk k (h.om k e).1, Wi.row_heap h.vr fun k e => hk k (h.ov k e).1, fun x hx => (h.each x hx).keep fun k e => hk k (h.oe x hx k e).1, h.ob, h.ol, h.om, h.ov, h.oe, h.pre, fun k e => Nat.lt_of_lt_of_le (h.lt k e) hsz⟩
theorem Try.Kp.set {w : World} {own : Nat → Prop} {b : Nat} {c0 c1 c2 c3 lv : Value} {hs : List Wi.Lh} {mv : Value} {ms : List Int} {V : Value} {N : Nat} {m : Int} (h : Try.Kp w own b c0 c1 c2 c3 lv hs mv ms V N m) (i : Nat) (u : Value) {d0 d1 d2 d3 : Value} (hd : (#[c0, c1, c2, c3] : Array Value).setIfInBounds i u = #[d0, d1, d2, d3]) : Try.Kp (w.setCell ⟨b, i, .none⟩ u) own b d0 d1 d2 d3 lv hs mv ms V N m ∧ Wo own w (w.setCell ⟨b, i, .none⟩ u) := by
  have hx2 := heap_setCell_same w b i _ 33 u h.bl
  rw [hd] at hx2
  have hot : ∀ k, k ≠ b → (w.setCell ⟨b, i, .none⟩ u).heap[k]? = w.heap[k]? := fun k hk => Below.heap_setCell w ⟨b, i, .none⟩ _ k hk
  exact ⟨⟨hx2, Wi.row_heap h.lr fun k e => hot k (h.ol k e).2, Wi.row_heap h.mr fun k e => hot k (h.om k e).2.1, Wi.row_heap h.vr fun k e => hot k (h.ov k e).2.1, fun x hx => (h.each x hx).keep fun k e => hot k (h.oe x hx k e).2.1, h.ob, h.ol, h.om, h.ov, h.oe, h.pre, by simpa using h.lt⟩, (Wo.refl _ w).setCell b i _ (.inl h.ob)⟩
theorem Try.info_ints : (Try.prog.info? 31).map (fun i => (i.zero, i.size, i.bytes)) = some (some (.slice .none 0 0), 1, 24) := by kernel_rfl
theorem Wi.rowForm {w : World} {B n size : Nat} {T : TypeId} {v : Value} {xs : List Value} (h : w.ownsRow B T size v n xs) : ∃ ad cap, v = .slice ad n cap ∧ (ad = none → cap = 0 ∧ n = 0) ∧ (∀ d, ad = some d → ∃ g, d = ⟨g, 0, none⟩) ∧ n ≤ cap := by
  rcases h.2 with ⟨e, e0⟩ | ⟨g, cap, cur, e, _, _, h1, _⟩
  · exact ⟨none, 0, by rw [e0]; exact e, fun _ => ⟨rfl, e0⟩, fun d e1 => (by cases e1), by omega⟩
  · exact ⟨_, cap, e, (fun e1 => by cases e1), (fun d e1 => by cases e1; exact ⟨g, rfl⟩), h1⟩
/-- 'append' of a list to those that are kept. -/
theorem Try.appL {ops : Array Oper} {rest : List Oper} {o : Oper} {a : Act} {Q : Exit → Act → World → Prop} (hgd : o.guard = none) (p y : Operand)
    (ho : o.op = .call { callee := .builtin .append, args := #[p, y], argTypes := #[30, 30] })
    {w : World} {own : Nat → Prop} {b : Nat} {c0 c1 c2 c3 lv : Value} {hs : List Wi.Lh} {mv : Value} {ms : List Int} {V : Value} {N : Nat} {m : Int} (h : Try.Kp w own b c0 c1 c2 c3 lv hs mv ms V N m) (hlen : hs.length ≤ 1000000) (hN : N ≤ 9223372036854775807)
    (hs' : a.eval p = lv) (hy : a.eval y = .slice (some ⟨w.heap.size, 0, none⟩) 1 1)
    (hK : ∀ ad cap w1 own', Try.Kp w1 own' b c0 c1 c2 c3 (.slice ad (hs.length + 1) cap) (hs ++ [⟨V, N, m⟩]) mv ms V N m → (∀ k, own' k → own k ∨ w.heap.size ≤ k) → Wo own w w1 → wpList Try.prog ops Q rest (a.put o.dst (.slice ad (hs.length + 1) cap)) w1) : wpList Try.prog ops Q (o :: rest) a (w.alloc (.cells #[V] 31)) := by
  obtain ⟨i0, hi0, hz0, hz1, hz2⟩ := info_parts Try.info_ints
  obtain ⟨va, vc, hV, -⟩ := Wi.rowForm h.vr
  have hnb : (w.alloc (.cells #[V] 31)).heap[w.heap.size]? = some (.cells #[V] 31 (0, 0)) := heap_alloc_new w _
  have hb : Below w.heap.size w (w.alloc (.cells #[V] 31)) := (Below.refl w.heap.size w).alloc (Nat.le_refl _) _
  have hrow1 := Wi.row_heap h.lr fun k e => hb.block k (h.lr.lt k e).2
  have hsz : (w.alloc (.cells #[V] 31)).heap.size = w.heap.size + 1 := by simp
  refine wpList_append_lies _ hgd p y 30 ho 0 31 i0 _ 1 24 Try.underlying30 hi0 hz0 hz1 hz2 rfl (by omega) lv hs.length (Wi.lvs hs) hs' hrow1 ⟨w.heap.size, 0, none⟩ 1 1 [V] hy rfl (World.news_of_block hnb) (by rw [hV]; simp [Value.oneCell']) (by omega) (by unfold maxLen; omega) (by omega) (by omega) _ rfl ?_
  intro g cap w' hown hg hat hlt
  have e : Wi.lvs hs ++ [V] = Wi.lvs (hs ++ [⟨V, N, m⟩]) := by simp [Wi.lvs]
  rw [e] at hown
  have hgn : ∀ k, k < w.heap.size → lv.ownBlock ≠ some k → g ≠ k := fun k hk1 hk2 e1 => by
    subst e1
    rcases hat with e2 | e2
    · exact hk2 e2
    · rw [hsz] at e2; omega
  have hbl : ∀ k, k < w.heap.size → lv.ownBlock ≠ some k → w'.heap[k]? = w.heap[k]? := fun k hk1 hk2 => (hg.block k (by omega) (fun e1 => hk2 e1.symm)).trans (hb.block k hk1)
  have hwo : Wo own w w' := (Wo.ofBelow hb).grown hg fun k e1 => .inl (h.ol k e1).1
  have hol : ∀ k, own k → k < w.heap.size := h.lt
  have hsz' : w.heap.size ≤ w'.heap.size := hwo.size
  refine hK (some ⟨g, 0, none⟩) cap w' (fun k => own k ∨ (w.heap.size ≤ k ∧ k < w'.heap.size)) ⟨?_, ?_, ?_, ?_, ?_, ?_, ?_, ?_, ?_, ?_, ?_, ?_⟩ (fun k e1 => e1.elim .inl fun e2 => .inr e2.1) hwo
  · exact (hbl b (hol b h.ob) (fun e1 => (h.ol b e1).2 rfl)).trans h.bl
  · rw [List.length_append]; exact hown
  · exact Wi.row_heap h.mr fun k e1 => hbl k (hol k (h.om k e1).1) (h.om k e1).2.2
  · exact Wi.row_heap h.vr fun k e1 => hbl k (hol k (h.ov k e1).1) (h.ov k e1).2.2.1
  · intro x hx
    rcases List.mem_append.1 hx with hx | hx
    · exact (h.each x hx).keep fun k e1 => hbl k (hol k (h.oe x hx k e1).1) (h.oe x hx k e1).2.2.1
    · rcases List.mem_singleton.1 hx with rfl
      have h1 := Wi.row_heap h.vr (w' := w') fun k e1 => hbl k (hol k (h.ov k e1).1) (h.ov k e1).2.2.1
      exact Try.Ns_row (B := 0) (by simpa using h1) (by simpa using hN)
  · exact .inl h.ob
  · intro k e1
    cases e1
    rcases hat with e2 | e2
    · exact ⟨.inl (h.ol _ e2).1, (h.ol _ e2).2⟩
    · have := hol b h.ob
      refine ⟨.inr ⟨?_, hlt⟩, ?_⟩
      · show w.heap.size ≤ g
        rw [e2, hsz]; omega
      · show g ≠ b
        rw [e2, hsz]; omega
  · intro k e1
    have h1 := h.om k e1
    refine ⟨.inl h1.1, h1.2.1, fun e2 => ?_⟩
    cases e2
    exact hgn _ (hol _ h1.1) h1.2.2 rfl
  · intro k e1
    have h1 := h.ov k e1
    refine ⟨.inl h1.1, h1.2.1, fun e2 => ?_, h1.2.2.2⟩
    cases e2
    exact hgn _ (hol _ h1.1) h1.2.2.1 rfl
  · intro x hx k e1
    have h1 : own k ∧ k ≠ b ∧ lv.ownBlock ≠ some k ∧ mv.ownBlock ≠ some k := by
      rcases List.mem_append.1 hx with hx | hx
      · exact h.oe x hx k e1
      · rcases List.mem_singleton.1 hx with rfl
        exact h.ov k e1
    refine ⟨.inl h1.1, h1.2.1, fun e2 => ?_, h1.2.2.2⟩
    cases e2
    exact hgn _ (hol _ h1.1) h1.2.2.1 rfl
  · intro x hx k e1 e2
    rcases List.mem_append.1 hx with hx | hx
    · exact h.pre x hx k e1 e2
    · rcases List.mem_singleton.1 hx with rfl
      refine ⟨rfl, Nat.le_refl _, vc, ?_⟩
      obtain ⟨ad, cp, e3, -, e4, -⟩ := Wi.rowForm h.vr
      rw [hV] at e3 e2
      simp only at e3 ⊢
      rw [hV]
      injection e3 with e5 e6 e7
      subst e5
      cases va with
      | none => cases e2
      | some d =>
        obtain ⟨g1, rfl⟩ := e4 d rfl
        cases e2
        rfl
  · intro k e1
    rcases e1 with e1 | e1
    · exact Nat.lt_of_lt_of_le (hol k e1) hsz'
    · exact e1.2
/-- 'append' of a mark to the row of marks. -/
theorem Try.appM {ops : Array Oper} {rest : List Oper} {o : Oper} {a : Act} {Q : Exit → Act → World → Prop} (hgd : o.guard = none) (p y : Operand)
    (ho : o.op = .call { callee := .builtin .append, args := #[p, y], argTypes := #[31, 31] })
    {w : World} {own : Nat → Prop} {b : Nat} {c0 c1 c2 c3 lv : Value} {hs : List Wi.Lh} {mv : Value} {ms : List Int} {V : Value} {N : Nat} {m : Int} (h : Try.Kp w own b c0 c1 c2 c3 lv hs mv ms V N m) (hlen : ms.length ≤ 1000000)
    (hs' : a.eval p = mv) (hy : a.eval y = .slice (some ⟨w.heap.size, 0, none⟩) 1 1) (z : Int)
    (hK : ∀ ad cap w1 own', Try.Kp w1 own' b c0 c1 c2 c3 lv hs (.slice ad (ms.length + 1) cap) (ms ++ [z]) V N m → (∀ k, own' k → own k ∨ w.heap.size ≤ k) → Wo own w w1 → wpList Try.prog ops Q rest (a.put o.dst (.slice ad (ms.length + 1) cap)) w1) : wpList Try.prog ops Q (o :: rest) a (w.alloc (.cells #[.int .i64 z] 2)) := by
  obtain ⟨i0, hi0, hz0, hz1, hz2⟩ := info_parts Try.info_i64
  have hnb : (w.alloc (.cells #[.int .i64 z] 2)).heap[w.heap.size]? = some (.cells #[.int .i64 z] 2 (0, 0)) := heap_alloc_new w _
  have hb : Below w.heap.size w (w.alloc (.cells #[.int .i64 z] 2)) := (Below.refl w.heap.size w).alloc (Nat.le_refl _) _
  have hrow1 := Wi.row_heap h.mr fun k e => hb.block k (h.mr.lt k e).2
  have hsz : (w.alloc (.cells #[.int .i64 z] 2)).heap.size = w.heap.size + 1 := by simp
  refine wpList_append_lies _ hgd p y 31 ho 0 2 i0 _ 1 8 Try.underlying31 hi0 hz0 hz1 hz2 rfl (by omega) mv ms.length (Wi.ics ms) hs' hrow1 ⟨w.heap.size, 0, none⟩ 1 1 [.int .i64 z] hy rfl (World.news_of_block hnb) (by simp [Value.oneCell']) (by omega) (by unfold maxLen; omega) (by omega) (by omega) _ rfl ?_
  intro g cap w' hown hg hat hlt
  have e : Wi.ics ms ++ [.int .i64 z] = Wi.ics (ms ++ [z]) := by simp [Wi.ics]
  rw [e] at hown
  have hgn : ∀ k, k < w.heap.size → mv.ownBlock ≠ some k → g ≠ k := fun k hk1 hk2 e1 => by
    subst e1
    rcases hat with e2 | e2
    · exact hk2 e2
    · rw [hsz] at e2; omega
  have hbl : ∀ k, k < w.heap.size → mv.ownBlock ≠ some k → w'.heap[k]? = w.heap[k]? := fun k hk1 hk2 => (hg.block k (by omega) (fun e1 => hk2 e1.symm)).trans (hb.block k hk1)
  have hwo : Wo own w w' := (Wo.ofBelow hb).grown hg fun k e1 => .inl (h.om k e1).1
  have hol : ∀ k, own k → k < w.heap.size := h.lt
  have hsz' : w.heap.size ≤ w'.heap.size := hwo.size
  have hlm : ∀ k, lv.ownBlock = some k → mv.ownBlock ≠ some k := fun k e1 e2 => (h.om k e2).2.2 e1
  refine hK (some ⟨g, 0, none⟩) cap w' (fun k => own k ∨ (w.heap.size ≤ k ∧ k < w'.heap.size)) ⟨?_, ?_, ?_, ?_, ?_, ?_, ?_, ?_, ?_, ?_, ?_, ?_⟩ (fun k e1 => e1.elim .inl fun e2 => .inr e2.1) hwo
  · exact (hbl b (hol b h.ob) (fun e1 => (h.om b e1).2.1 rfl)).trans h.bl
  · exact Wi.row_heap h.lr fun k e1 => hbl k (hol k (h.ol k e1).1) (hlm k e1)
  · rw [List.length_append]; exact hown
  · exact Wi.row_heap h.vr fun k e1 => hbl k (hol k (h.ov k e1).1) (h.ov k e1).2.2.2
  · intro x hx
    exact (h.each x hx).keep fun k e1 => hbl k (hol k (h.oe x hx k e1).1) (h.oe x hx k e1).2.2.2
  · exact .inl h.ob
  · intro k e1
    exact ⟨.inl (h.ol k e1).1, (h.ol k e1).2⟩
  · intro k e1
    cases e1
    rcases hat with e2 | e2
    · have h1 := h.om _ e2
      exact ⟨.inl h1.1, h1.2⟩
    · have := hol b h.ob
      have e3 : g = w.heap.size + 1 := by rw [← hsz]; exact e2
      refine ⟨.inr ⟨?_, hlt⟩, ?_, fun e4 => ?_⟩
      · show w.heap.size ≤ g
        omega
      · show g ≠ b
        omega
      · have := hol _ (h.ol _ e4).1
        simp only at this
        omega
  · intro k e1
    have h1 := h.ov k e1
    refine ⟨.inl h1.1, h1.2.1, h1.2.2.1, fun e2 => ?_⟩
    cases e2
    exact hgn _ (hol _ h1.1) h1.2.2.2 rfl
  · intro x hx k e1
    have h1 := h.oe x hx k e1
    refine ⟨.inl h1.1, h1.2.1, h1.2.2.1, fun e2 => ?_⟩
    cases e2
    exact hgn _ (hol _ h1.1) h1.2.2.2 rfl
  · exact h.pre
  · intro k e1
    rcases e1 with e1 | e1
    · exact Nat.lt_of_lt_of_le (hol k e1) hsz'
    · exact e1.2
theorem Try.Ns_pre {w : World} {N : Nat} {V : Value} {m : Int} (h : w.ownsRow 0 2 1 V N (Wi.ics (List.replicate N m))) {k n c : Nat} (hk : V.ownBlock = some k) (hn : n ≤ N) (hN : n ≤ 9223372036854775807) : Wi.Ns w (.slice (some ⟨k, 0, none⟩) n c) (List.replicate n m) := by
  rcases h.2 with ⟨e, e0⟩ | ⟨g, cap, cur, e, _, hg, h1, _⟩
  · rw [e] at hk; cases hk
  · subst e
    cases hk
    have hl : (List.replicate n m).length = n := by simp
    refine ⟨_, c, by rw [hl], by rw [hl]; exact hN, fun j hj => ⟨g, 0, rfl, ?_⟩⟩
    have hj2 : j < n := by simpa using hj
    have c1 := h.cells (g := g) rfl j (.int .i64 m) (by simp only [Wi.ics, List.map_replicate]; rw [List.getElem?_replicate, if_pos (Nat.lt_of_lt_of_le hj2 hn)])
    rw [Addr.add_mid] at c1
    rw [c1]
    simp
/-- 'append' of a mark to the list that is being marked. -/
theorem Try.appV {ops : Array Oper} {rest : List Oper} {o : Oper} {a : Act} {Q : Exit → Act → World → Prop} (hgd : o.guard = none) (p y : Operand)
    (ho : o.op = .call { callee := .builtin .append, args := #[p, y], argTypes := #[31, 31] })
    {w : World} {own : Nat → Prop} {b : Nat} {c0 c1 c2 c3 lv : Value} {hs : List Wi.Lh} {mv : Value} {ms : List Int} {V : Value} {N : Nat} {m : Int} (h : Try.Kp w own b c0 c1 c2 c3 lv hs mv ms V N m) (hlen : (N + 1) * 8 ≤ 140737488355328)
    (hs' : a.eval p = V) (hy : a.eval y = .slice (some ⟨w.heap.size, 0, none⟩) 1 1)
    (hK : ∀ ad cap w1 own', Try.Kp w1 own' b c0 c1 c2 c3 lv hs mv ms (.slice ad (N + 1) cap) (N + 1) m → (∀ k, own' k → own k ∨ w.heap.size ≤ k) → Wo own w w1 → wpList Try.prog ops Q rest (a.put o.dst (.slice ad (N + 1) cap)) w1) : wpList Try.prog ops Q (o :: rest) a (w.alloc (.cells #[.int .i64 m] 2)) := by
  obtain ⟨i0, hi0, hz0, hz1, hz2⟩ := info_parts Try.info_i64
  obtain ⟨va, vc, hV, hn0, h3, hNc⟩ := Wi.rowForm h.vr
  have hnb : (w.alloc (.cells #[.int .i64 m] 2)).heap[w.heap.size]? = some (.cells #[.int .i64 m] 2 (0, 0)) := heap_alloc_new w _
  have hb : Below w.heap.size w (w.alloc (.cells #[.int .i64 m] 2)) := (Below.refl w.heap.size w).alloc (Nat.le_refl _) _
  have hsz : (w.alloc (.cells #[.int .i64 m] 2)).heap.size = w.heap.size + 1 := by simp
  have hrow1 := Wi.row_heap h.vr fun k e => hb.block k (h.vr.lt k e).2
  have e : Wi.ics (List.replicate N m) ++ [Value.int .i64 m] = Wi.ics (List.replicate (N + 1) m) := by rw [List.replicate_succ']; simp [Wi.ics]
  have hol : ∀ k, own k → k < w.heap.size := h.lt
  by_cases hfull : vc < N + 1
  · refine wpList_append_grows _ hgd p y 31 ho 2 i0 _ 1 8 Try.underlying31 hi0 hz0 hz1 hz2 rfl (by omega) va N vc (Wi.ics (List.replicate N m)) (hs'.trans hV) (fun e1 => ⟨(hn0 e1).2, (hn0 e1).1⟩) (by rw [Wi.ics_len]; simp) (fun b e1 j u hu => ?_) ⟨w.heap.size, 0, none⟩ 1 1 [.int .i64 m] hy rfl (World.news_of_block hnb) (by simp [Value.oneCell']) hfull (by unfold maxLen; omega) (by omega) ?_
    · obtain ⟨g, rfl⟩ := h3 b e1
      have hr := hrow1
      rw [hV, e1] at hr
      exact hr.cells (g := g) rfl j u hu
    · intro v' w' hown hg
      rw [e] at hown
      obtain ⟨va', vc', hV', -⟩ := Wi.rowForm hown
      have hwo : Wo own w w' := (Wo.ofBelow hb).grown hg fun k e1 => by cases e1
      have hbl : ∀ k, k < w.heap.size → w'.heap[k]? = w.heap[k]? := fun k hk => (hg.block k (by omega) (fun e1 => by cases e1)).trans (hb.block k hk)
      subst hV'
      have h9 := h.keep (fun k e1 => hbl k (hol k e1)) hwo.size
      have hnew : ∀ k, (Value.slice va' (N + 1) vc').ownBlock = some k → w.heap.size ≤ k ∧ k < w'.heap.size := fun k e1 => by
        have := hown.lt k e1
        omega
      refine hK va' vc' w' (fun k => own k ∨ (w.heap.size ≤ k ∧ k < w'.heap.size)) ⟨h9.bl, h9.lr, h9.mr, ⟨hown.1, hown.2.elim Or.inl fun ⟨g, c, cur, q1, q2, q3⟩ => Or.inr ⟨g, c, cur, q1, Nat.zero_le _, q3⟩⟩, h9.each, .inl h.ob, fun k e1 => ⟨.inl (h.ol k e1).1, (h.ol k e1).2⟩, fun k e1 => ⟨.inl (h.om k e1).1, (h.om k e1).2⟩, fun k e1 => ?_, fun x hx k e1 => ⟨.inl (h.oe x hx k e1).1, (h.oe x hx k e1).2⟩, fun x hx k e1 e2 => ?_, fun k e1 => ?_⟩ (fun k e1 => e1.elim .inl fun e2 => .inr e2.1) hwo
      · have h1 := hnew k e1
        have h2 := hol b h.ob
        exact ⟨.inr h1, by omega, fun e2 => by have := hol k (h.ol k e2).1; omega, fun e2 => by have := hol k (h.om k e2).1; omega⟩
      · have h1 := hnew k e2
        have := hol k (h.oe x hx k e1).1
        omega
      · rcases e1 with e1 | e1
        · exact Nat.lt_of_lt_of_le (hol k e1) hwo.size
        · exact e1.2
  · cases va with
    | none => have := hn0 rfl; omega
    | some d =>
      obtain ⟨g, rfl⟩ := h3 d rfl
      rw [hV] at hrow1
      refine wpList_append_fits _ hgd p y 31 ho 0 2 i0 1 Try.underlying31 hi0 hz1 g N vc _ (hs'.trans hV) hrow1 ⟨w.heap.size, 0, none⟩ 1 1 [.int .i64 m] hy rfl (World.news_of_block hnb) (by simp [Value.oneCell']) (by omega) ?_
      intro w' hown hg
      rw [e] at hown
      have hVg : V.ownBlock = some g := by rw [hV]; rfl
      have hog := h.ov g hVg
      have hwo : Wo own w w' := (Wo.ofBelow hb).grown hg fun k e1 => .inl (by cases e1; exact hog.1)
      have hbl : ∀ k, k < w.heap.size → g ≠ k → w'.heap[k]? = w.heap[k]? := fun k hk hk2 => (hg.block k (by omega) (fun e1 => hk2 (by cases e1; rfl))).trans (hb.block k hk)
      refine hK (some ⟨g, 0, none⟩) vc w' own ⟨(hbl b (hol b h.ob) hog.2.1).trans h.bl, Wi.row_heap h.lr fun k e1 => hbl k (hol k (h.ol k e1).1) (fun e2 => hog.2.2.1 (by rw [e2]; exact e1)), Wi.row_heap h.mr fun k e1 => hbl k (hol k (h.om k e1).1) (fun e2 => hog.2.2.2 (by rw [e2]; exact e1)), hown, fun x hx => ?_, h.ob, h.ol, h.om, fun k e1 => by cases e1; exact hog, h.oe, fun x hx k e1 e2 => ?_, fun k e1 => Nat.lt_of_lt_of_le (hol k e1) hwo.size⟩ (fun k e1 => .inl e1) hwo
      · by_cases hxg : x.v.ownBlock = some g
        · obtain ⟨p1, p2, c, p3⟩ := h.pre x hx g hxg hVg
          rw [p3, p1]
          exact Try.Ns_pre hown rfl (by omega) (by omega)
        · exact (h.each x hx).keep fun k e1 => hbl k (hol k (h.oe x hx k e1).1) (fun e2 => hxg (by rw [e2]; exact e1))
      · cases e2
        obtain ⟨p1, p2, p3⟩ := h.pre x hx g e1 hVg
        exact ⟨p1, by omega, p3⟩
end Go.Proofs
