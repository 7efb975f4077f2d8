/-
  keep.
-/
import Derived.Test.YtdefebinnmimgaaVt
namespace Go.Proofs
open Go.RowKit Go.Wi
theorem Try.info_hold : (Try.prog.info? 103).map (fun i => (i.zero.map (·.cells.size), i.size, i.bytes)) = some (some 2, 2, 32) := by kernel_rfl
theorem Wi.rowForm {w : World} {B n size : Nat} {T : TypeId} {v : Value} {xs : List Value} (h : w.ownsRow B T size v n xs) : ∃ ad cap, v = .slice ad n cap ∧ (ad = none → cap = 0 ∧ n = 0) ∧ (∀ d, ad = some d → ∃ g, d = ⟨g, 0, none⟩) ∧ n ≤ cap := by
  rcases h.2 with ⟨e, e0⟩ | ⟨g, cap, cur, e, _, _, h1, _⟩
  · exact ⟨none, 0, by rw [e0]; exact e, fun _ => ⟨rfl, e0⟩, fun d e1 => (by cases e1), by omega⟩
  · exact ⟨_, cap, e, (fun e1 => by cases e1), (fun d e1 => by cases e1; exact ⟨g, rfl⟩), h1⟩
/-- Holds, and a row of marks that may yet grow. -/
structure Try.KV (w : World) (own : Nat → Prop) (kv : Value) (hs : List Wi.Hd) (V : Value) (N : Nat) (m : UInt8) : Prop where
  hh : Try.Hs w own kv hs
  vr : w.ownsRow 0 5 1 V N (Lib.byteCells (List.replicate N m))
  vk : ∀ k, V.ownBlock = some k → kv.ownBlock ≠ some k
  pre : ∀ h ∈ hs, ∀ k, h.v.ownBlock = some k → V.ownBlock = some k → h.m = m ∧ h.n ≤ N ∧ ∃ c, h.v = .slice (some ⟨k, 0, none⟩) h.n c
theorem Wi.bs_pre {w : World} {B N : Nat} {T : TypeId} {V : Value} {m : UInt8} (h : w.ownsRow B T 1 V N (Lib.byteCells (List.replicate N m))) {k n c : Nat} (hk : V.ownBlock = some k) (hn : n ≤ N) (hc : n ≤ c) : Bs w (.slice (some ⟨k, 0, none⟩) n c) (List.replicate n m) := by
  rcases h.2 with ⟨e, e0⟩ | ⟨g, cap, cur, e, _, hg, h1, _⟩
  · rw [e] at hk; cases hk
  · subst e
    cases hk
    have hl : (List.replicate n m).length = n := by simp
    refine ⟨_, c, by rw [hl], by omega, (fun e => by cases e), .inr ⟨g, 0, rfl, block_lt hg, fun j u hu => ?_⟩⟩
    have hj := (List.getElem?_eq_some_iff.1 hu).1
    rw [byteCells_len, hl] at hj
    have := h.cells (g := g) rfl j u (by
      rw [byteCell (by rw [hl]; exact hj)] at hu
      rw [byteCell (by simp; omega), ← hu]; simp)
    rw [Addr.add_mid] at this
    exact this
/-- 'append' of a hold. -/
theorem Try.appHold {ops : Array Oper} {rest : List Oper} {o : Oper} {a : Act} {Q : Exit → Act → World → Prop} (hgd : o.guard = none) (s y : Operand)
    (ho : o.op = .call { callee := .builtin .append, args := #[s, y], argTypes := #[75, 75] })
    {w : World} {own : Nat → Prop} {kv : Value} {hs : List Wi.Hd} {V : Value} {N : Nat} {m : UInt8} (h : Try.KV w own kv hs V N m) (hlen : hs.length ≤ 1000000)
    (hs' : a.eval s = kv) (hy : a.eval y = .slice (some ⟨w.heap.size, 0, none⟩) 1 1) (z : Int) (hz : z = (m.toNat : Nat))
    (hK : ∀ ad cap w1 own', Try.KV w1 own' (.slice ad (hs.length + 1) cap) (hs ++ [⟨V, N, m⟩]) V N m → (∀ k, own' k → own k ∨ V.ownBlock = some k ∨ w.heap.size ≤ k) → Wo own w w1 → (∀ k, V.ownBlock = some k → own' k) → wpList Try.prog ops Q rest (a.put o.dst (.slice ad (hs.length + 1) cap)) w1) : wpList Try.prog ops Q (o :: rest) a (w.alloc (.cells #[V, .int .u8 z] 103)) := by
  subst hz
  obtain ⟨i0, hi0, hi1⟩ := Option.map_eq_some_iff.1 Try.info_hold
  simp only [Prod.mk.injEq] at hi1
  obtain ⟨hz0, hz1, hz2⟩ := hi1
  obtain ⟨zz, hzz, hzs⟩ := Option.map_eq_some_iff.1 hz0
  obtain ⟨va, vc, hV, -⟩ := Wi.rowForm h.vr
  have hnb : (w.alloc (.cells #[V, .int .u8 (m.toNat : Nat)] 103)).heap[w.heap.size]? = some (.cells #[V, .int .u8 (m.toNat : Nat)] 103 (0, 0)) := heap_alloc_new w _
  have hb : Below w.heap.size w (w.alloc (.cells #[V, .int .u8 (m.toNat : Nat)] 103)) := (Below.refl w.heap.size w).alloc (Nat.le_refl _) _
  have hrow1 := Wi.row_heap h.hh.row fun k e => hb.block k (h.hh.row.lt k e).2
  have hsz : (w.alloc (.cells #[V, .int .u8 (m.toNat : Nat)] 103)).heap.size = w.heap.size + 1 := by simp
  refine wpList_append_lies _ hgd s y 75 ho 0 103 i0 zz 2 32 Try.underlying75 hi0 hzz hz1 hz2 hzs (by omega) kv hs.length (Wi.hcs hs) hs' hrow1 ⟨w.heap.size, 0, none⟩ 1 1 [V, .int .u8 (m.toNat : Nat)] hy rfl (World.news_of_block hnb) (by rw [hV]; simp [Value.oneCell']) (by omega) (by unfold maxLen; omega) (by omega) (by omega) _ rfl ?_
  intro g cap w' hown hg hat hlt
  have e : Wi.hcs hs ++ [V, Value.int .u8 (m.toNat : Nat)] = Wi.hcs (hs ++ [⟨V, N, m⟩]) := by rw [Wi.hcs_app]; rfl
  rw [e] at hown
  have hgn : ∀ k, k < w.heap.size → kv.ownBlock ≠ some k → g ≠ k := fun k hk1 hk2 e1 => by
    subst e1
    rcases hat with e2 | e2
    · exact hk2 e2
    · rw [hsz] at e2; omega
  have hbl : ∀ k, k < w.heap.size → kv.ownBlock ≠ some k → w'.heap[k]? = w.heap[k]? := fun k hk1 hk2 => (hg.block k (by omega) (fun e1 => hk2 e1.symm)).trans (hb.block k hk1)
  have hwo : Wo own w w' := (Wo.ofBelow hb).grown hg fun k e1 => .inl (h.hh.ko k e1)
  have hvl : ∀ k, V.ownBlock = some k → k < w.heap.size := fun k e1 => (h.vr.lt k e1).2
  have hvr' : w'.ownsRow 0 5 1 V N (Lib.byteCells (List.replicate N m)) := Wi.row_heap h.vr fun k e1 => hbl k (hvl k e1) (h.vk k e1)
  refine hK (some ⟨g, 0, none⟩) cap w' (fun k => own k ∨ V.ownBlock = some k ∨ (w.heap.size ≤ k ∧ k < w'.heap.size)) ⟨⟨by rw [List.length_append]; exact hown, fun k e1 => ?_, fun x hx => ?_, fun k e1 => ?_⟩, hvr', fun k e1 e2 => ?_, fun x hx k e1 e2 => ?_⟩ (fun k e1 => by rcases e1 with e1 | e1 | e1; exact .inl e1; exact .inr (.inl e1); exact .inr (.inr e1.1)) hwo (fun k e1 => .inr (.inl e1))
  · cases e1
    rcases hat with e2 | e2
    · exact .inl (h.hh.ko _ e2)
    · refine .inr (.inr ⟨?_, hlt⟩)
      show w.heap.size ≤ g
      rw [e2, hsz]; omega
  · rcases List.mem_append.1 hx with hx | hx
    · have hh := h.hh.each x hx
      refine ⟨hh.1.keep fun k e1 => hbl k (h.hh.lt k (hh.2 k e1).1) (hh.2 k e1).2, fun k e1 => ⟨.inl (hh.2 k e1).1, fun e2 => ?_⟩⟩
      cases e2
      exact hgn _ (h.hh.lt _ (hh.2 _ e1).1) (hh.2 _ e1).2 rfl
    · rcases List.mem_singleton.1 hx with rfl
      refine ⟨Bs.ofRow hvr', fun k e1 => ⟨.inr (.inl e1), fun e2 => ?_⟩⟩
      cases e2
      exact hgn _ (hvl _ e1) (h.vk _ e1) rfl
  · rcases e1 with e1 | e1 | e1
    · exact Nat.lt_of_lt_of_le (h.hh.lt k e1) hwo.size
    · exact Nat.lt_of_lt_of_le (hvl k e1) hwo.size
    · exact e1.2
  · cases e2
    exact hgn _ (hvl _ e1) (h.vk _ e1) rfl
  · rcases List.mem_append.1 hx with hx | hx
    · exact h.pre x hx k e1 e2
    · rcases List.mem_singleton.1 hx with rfl
      obtain ⟨va, vc, hV, -, h3, -⟩ := Wi.rowForm h.vr
      refine ⟨rfl, Nat.le_refl _, vc, ?_⟩
      simp only
      rw [hV] at e1 ⊢
      cases va with
      | none => cases e1
      | some d =>
        obtain ⟨g', rfl⟩ := h3 d rfl
        cases e1
        rfl
/-- 'append' of one more mark. -/
theorem Try.appMark {ops : Array Oper} {rest : List Oper} {o : Oper} {a : Act} {Q : Exit → Act → World → Prop} (hgd : o.guard = none) (s y : Operand)
    (ho : o.op = .call { callee := .builtin .append, args := #[s, y], argTypes := #[22, 22] })
    {w : World} {own : Nat → Prop} {kv : Value} {hs : List Wi.Hd} {V : Value} {N : Nat} {m : UInt8} (h : Try.KV w own kv hs V N m) (hlen : N ≤ 1000000000)
    (hs' : a.eval s = V) (hy : a.eval y = .slice (some ⟨w.heap.size, 0, none⟩) 1 1) (z : Int) (hz : z = (m.toNat : Nat))
    (hK : ∀ ad cap w1, Try.KV w1 own kv hs (.slice ad (N + 1) cap) (N + 1) m → (∀ k, (Value.slice ad (N + 1) cap).ownBlock = some k → V.ownBlock = some k ∨ w.heap.size ≤ k) → Wo (fun k => V.ownBlock = some k) w w1 → wpList Try.prog ops Q rest (a.put o.dst (.slice ad (N + 1) cap)) w1) : wpList Try.prog ops Q (o :: rest) a (w.alloc (.cells #[.int .u8 z] 5)) := by
  subst hz
  obtain ⟨i0, hi0, hz0, hz1, hz2⟩ := info_parts Try.info_u8
  obtain ⟨va, vc, hV, hn0, h3, hNc⟩ := Wi.rowForm h.vr
  have hnb : (w.alloc (.cells #[.int .u8 (m.toNat : Nat)] 5)).heap[w.heap.size]? = some (.cells #[.int .u8 (m.toNat : Nat)] 5 (0, 0)) := heap_alloc_new w _
  have hb : Below w.heap.size w (w.alloc (.cells #[.int .u8 (m.toNat : Nat)] 5)) := (Below.refl w.heap.size w).alloc (Nat.le_refl _) _
  have hsz : (w.alloc (.cells #[.int .u8 (m.toNat : Nat)] 5)).heap.size = w.heap.size + 1 := by simp
  have hrow1 := Wi.row_heap h.vr fun k e => hb.block k (h.vr.lt k e).2
  have e : Lib.byteCells (List.replicate N m) ++ [Value.int .u8 (m.toNat : Nat)] = Lib.byteCells (List.replicate (N + 1) m) := by rw [List.replicate_succ']; simp [Lib.byteCells]
  have hHsb := h.hh.keep (fun k e => hb.block k (h.hh.lt k e)) hb.size
  by_cases hfull : vc < N + 1
  · refine wpList_append_grows _ hgd s y 22 ho 5 i0 _ 1 1 Try.underlying22 hi0 hz0 hz1 hz2 rfl (by omega) va N vc (Lib.byteCells (List.replicate N m)) (hs'.trans hV) (fun e1 => ⟨(hn0 e1).2, (hn0 e1).1⟩) (by rw [byteCells_len]; simp) (fun b e1 j u hu => ?_) ⟨w.heap.size, 0, none⟩ 1 1 [.int .u8 (m.toNat : Nat)] hy rfl (World.news_of_block hnb) (by simp [Value.oneCell']) hfull (by unfold maxLen; omega) (by omega) ?_
    · obtain ⟨g, rfl⟩ := h3 b e1
      have hr := hrow1
      rw [hV, e1] at hr
      exact hr.cells (g := g) rfl j u hu
    · intro v' w' hown hg
      rw [e] at hown
      obtain ⟨va', vc', hV', -⟩ := Wi.rowForm hown
      have hwo : Wo (fun k => V.ownBlock = some k) w w' := (Wo.ofBelow hb).grown hg fun k e1 => by cases e1
      have hbl : ∀ k, k < w.heap.size → w'.heap[k]? = w.heap[k]? := fun k hk => (hg.block k (by omega) (fun e1 => by cases e1)).trans (hb.block k hk)
      subst hV'
      refine hK va' vc' w' ⟨h.hh.keep (fun k e1 => hbl k (h.hh.lt k e1)) hwo.size, ⟨hown.1, hown.2.elim Or.inl fun ⟨g, c, cur, q1, q2, q3⟩ => Or.inr ⟨g, c, cur, q1, Nat.zero_le _, q3⟩⟩, fun k e1 e2 => ?_, fun x hx k e1 e2 => ?_⟩ (fun k e1 => .inr (by have := (hown.lt k e1).1; omega)) hwo
      · have := (hown.lt k e1).1; have := h.hh.lt k (h.hh.ko k e2); omega
      · have := (hown.lt k e2).1; have := h.hh.lt k ((h.hh.each x hx).2 k e1).1; omega
  · cases va with
    | none => have := hn0 rfl; omega
    | some d =>
      obtain ⟨g, rfl⟩ := h3 d rfl
      rw [hV] at hrow1
      refine wpList_append_fits _ hgd s y 22 ho 0 5 i0 1 Try.underlying22 hi0 hz1 g N vc _ (hs'.trans hV) hrow1 ⟨w.heap.size, 0, none⟩ 1 1 [.int .u8 (m.toNat : Nat)] hy rfl (World.news_of_block hnb) (by simp [Value.oneCell']) (by omega) ?_
      intro w' hown hg
      rw [e] at hown
      have hVg : V.ownBlock = some g := by rw [hV]; rfl
      have hgl := (h.vr.lt g hVg).2
      have hwo : Wo (fun k => V.ownBlock = some k) w w' := (Wo.ofBelow hb).grown hg fun k e1 => .inl (by rw [hVg]; exact e1)
      have hbl : ∀ k, k < w.heap.size → g ≠ k → w'.heap[k]? = w.heap[k]? := fun k hk hk2 => (hg.block k (by omega) (fun e1 => hk2 (by cases e1; rfl))).trans (hb.block k hk)
      refine hK (some ⟨g, 0, none⟩) vc w' ⟨⟨Wi.row_heap h.hh.row fun k e1 => hbl k (h.hh.row.lt k e1).2 (fun e2 => h.vk g hVg (by rw [e2]; exact e1)), h.hh.ko, fun x hx => ⟨?_, (h.hh.each x hx).2⟩, fun k e1 => Nat.lt_of_lt_of_le (h.hh.lt k e1) hwo.size⟩, hown, fun k e1 => ?_, fun x hx k e1 e2 => ?_⟩ (fun k e1 => .inl (by rw [hVg]; exact e1)) hwo
      · have hx1 := h.hh.each x hx
        by_cases hxg : x.v.ownBlock = some g
        · obtain ⟨p1, p2, c, p3⟩ := h.pre x hx g hxg hVg
          obtain ⟨xa, xc, x1, x2, -⟩ := hx1.1.ex
          rw [List.length_replicate] at x1 x2
          rw [p3] at x1
          cases x1
          rw [p3, p1]
          exact Wi.bs_pre hown rfl (by omega) x2
        · exact hx1.1.keep fun k e1 => hbl k (h.hh.lt k (hx1.2 k e1).1) (fun e2 => hxg (by rw [e2]; exact e1))
      · cases e1; exact h.vk g hVg
      · cases e2
        obtain ⟨p1, p2, p3⟩ := h.pre x hx g e1 hVg
        exact ⟨p1, by omega, p3⟩
end Go.Proofs
