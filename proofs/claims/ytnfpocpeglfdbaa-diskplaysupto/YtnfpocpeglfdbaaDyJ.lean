/-
  HOLDS: what is held, in memory; append of a hold, of one more sign.
-/
import Derived.Test.YtnfpocpeglfdbaaDyI
import Derived.Test.YtnfpocpeglfdbaaDyA
namespace Go.Proofs
open Go.RowKit Go.Wi
structure Dk.Hd where
  v : Value
  n : Nat
  m : Nat
def Dk.hcs (hs : List Dk.Hd) : List Value := hs.flatMap fun h => [h.v, .int .i64 (h.m : Nat)]
theorem Dk.hcs_app (a b : List Dk.Hd) : Dk.hcs (a ++ b) = Dk.hcs a ++ Dk.hcs b := by simp [Dk.hcs]
theorem Dk.hcs_len (hs : List Dk.Hd) : (Dk.hcs hs).length = hs.length * 2 := by
  induction hs with
  | nil => rfl
  | cons h r ih =>
    have e : Dk.hcs (h :: r) = [h.v, .int .i64 (h.m : Nat)] ++ Dk.hcs r := rfl
    rw [e, List.length_append, ih, List.length_cons]
    simp; omega
theorem Dk.hcs_at : ∀ (hs : List Dk.Hd) (i : Nat) (h : Dk.Hd), hs[i]? = some h → (Dk.hcs hs)[2 * i]? = some h.v ∧ (Dk.hcs hs)[2 * i + 1]? = some (.int .i64 (h.m : Nat))
  | [], i, h, e => by simp at e
  | c :: r, 0, h, e => by simp at e; subst e; exact ⟨rfl, rfl⟩
  | c :: r, i + 1, h, e => by
    have := Dk.hcs_at r i h (by simpa using e)
    have e1 : Dk.hcs (c :: r) = c.v :: .int .i64 (c.m : Nat) :: Dk.hcs r := rfl
    rw [e1, show 2 * (i + 1) = 2 * i + 1 + 1 by omega]
    exact this
/-- Holds, in blocks of their own. -/
structure Try.Hs (w : World) (own : Nat → Prop) (kv : Value) (hs : List Dk.Hd) : Prop where
  row : w.ownsRow 0 57 2 kv hs.length (Dk.hcs hs)
  ko : ∀ k, kv.ownBlock = some k → own k
  each : ∀ h ∈ hs, Bs w h.v (Dk.sgs h.m h.n) ∧ ∀ k, h.v.ownBlock = some k → own k ∧ kv.ownBlock ≠ some k
  lt : ∀ k, own k → k < w.heap.size
theorem Try.Hs.keep {w w' : World} {own : Nat → Prop} {kv : Value} {hs : List Dk.Hd} (h : Try.Hs w own kv hs) (hk : ∀ k, own k → w'.heap[k]? = w.heap[k]?) (hsz : w.heap.size ≤ w'.heap.size) : Try.Hs w' own kv hs :=
  ⟨Dk.row_heap h.row fun k e => hk k (h.ko k e), h.ko, fun x hx => ⟨(h.each x hx).1.keep fun k e => hk k ((h.each x hx).2 k e).1, (h.each x hx).2⟩, fun k e => Nat.lt_of_lt_of_le (h.lt k e) hsz⟩
theorem Try.Hs.none (w : World) : Try.Hs w (fun _ => False) (.slice .none 0 0) [] :=
  ⟨World.ownsRow_nil _ _ _ _, (fun k e => by cases e), (fun h hh => by cases hh), (fun k e => e.elim)⟩
theorem Try.info_hold : (Try.prog.info? 57).map (fun i => (i.zero.map (·.cells.size), i.size, i.bytes)) = some (some 2, 2, 32) := by kernel_rfl
/-- Holds, and a row of marks that may yet grow. -/
structure Try.KV (w : World) (own : Nat → Prop) (kv : Value) (hs : List Dk.Hd) (V : Value) (N : Nat) (m : Nat) : Prop where
  hh : Try.Hs w own kv hs
  vr : w.ownsRow 0 5 1 V N (Lib.byteCells (Dk.sgs m N))
  vk : ∀ k, V.ownBlock = some k → kv.ownBlock ≠ some k
  pre : ∀ h ∈ hs, ∀ k, h.v.ownBlock = some k → V.ownBlock = some k → h.m = m ∧ h.n ≤ N ∧ ∃ c, h.v = .slice (some ⟨k, 0, none⟩) h.n c
theorem Dk.bs_pre {w : World} {B N : Nat} {T : TypeId} {V : Value} {m : Nat} (h : w.ownsRow B T 1 V N (Lib.byteCells (Dk.sgs m N))) {k n c : Nat} (hk : V.ownBlock = some k) (hn : n ≤ N) (hc : n ≤ c) : Bs w (.slice (some ⟨k, 0, none⟩) n c) (Dk.sgs m n) := by
  rcases h.2 with ⟨e, e0⟩ | ⟨g, cap, cur, e, _, hg, h1, _⟩
  · rw [e] at hk; cases hk
  · subst e
    cases hk
    have hl : (Dk.sgs m n).length = n := Dk.sgs_len m n
    refine ⟨_, c, by rw [hl], by omega, (fun e => by cases e), .inr ⟨g, 0, rfl, block_lt hg, fun j u hu => ?_⟩⟩
    have hj := (List.getElem?_eq_some_iff.1 hu).1
    rw [byteCells_len, hl] at hj
    have := h.cells (g := g) rfl j u (by
      rw [← hu]
      simp only [Lib.byteCells, List.getElem?_map]
      rw [Dk.sgs_at (by omega), Dk.sgs_at hj])
    rw [Addr.add_mid] at this
    exact this
/-- 'append' of a hold. -/
theorem Try.appHold {ops : Array Oper} {rest : List Oper} {o : Oper} {a : Act} {Q : Exit → Act → World → Prop} (hgd : o.guard = none) (s y : Operand)
    (ho : o.op = .call { callee := .builtin .append, args := #[s, y], argTypes := #[26, 26] })
    {w : World} {own : Nat → Prop} {kv : Value} {hs : List Dk.Hd} {V : Value} {N : Nat} {m : Nat} (h : Try.KV w own kv hs V N m) (hlen : hs.length ≤ 1000000000)
    (hs' : a.eval s = kv) (hy : a.eval y = .slice (some ⟨w.heap.size, 0, none⟩) 1 1) (z : Int) (hz : z = (m : Nat))
    (hK : ∀ ad cap w1 own', Try.KV w1 own' (.slice ad (hs.length + 1) cap) (hs ++ [⟨V, N, m⟩]) V N m → (∀ k, own' k → own k ∨ V.ownBlock = some k ∨ w.heap.size ≤ k) → Wo own w w1 → (∀ k, V.ownBlock = some k → own' k) → wpList Try.prog ops Q rest (a.put o.dst (.slice ad (hs.length + 1) cap)) w1) : wpList Try.prog ops Q (o :: rest) a (w.alloc (.cells #[V, .int .i64 z] 57)) := by
  subst hz
  obtain ⟨i0, hi0, hi1⟩ := Option.map_eq_some_iff.1 Try.info_hold
  simp only [Prod.mk.injEq] at hi1
  obtain ⟨hz0, hz1, hz2⟩ := hi1
  obtain ⟨zz, hzz, hzs⟩ := Option.map_eq_some_iff.1 hz0
  obtain ⟨va, vc, hV, -⟩ := Dk.rowForm h.vr
  have hnb : (w.alloc (.cells #[V, .int .i64 (m : Nat)] 57)).heap[w.heap.size]? = some (.cells #[V, .int .i64 (m : Nat)] 57 (0, 0)) := heap_alloc_new w _
  have hb : Below w.heap.size w (w.alloc (.cells #[V, .int .i64 (m : Nat)] 57)) := (Below.refl w.heap.size w).alloc (Nat.le_refl _) _
  have hrow1 := Dk.row_heap h.hh.row fun k e => hb.block k (h.hh.row.lt k e).2
  have hsz : (w.alloc (.cells #[V, .int .i64 (m : Nat)] 57)).heap.size = w.heap.size + 1 := by simp
  refine wpList_append_lies _ hgd s y 26 ho 0 57 i0 zz 2 32 Try.underlying26 hi0 hzz hz1 hz2 hzs (by omega) kv hs.length (Dk.hcs hs) hs' hrow1 ⟨w.heap.size, 0, none⟩ 1 1 [V, .int .i64 (m : Nat)] hy rfl (World.news_of_block hnb) (by rw [hV]; simp [Value.oneCell']) (by omega) (by unfold maxLen; omega) (by omega) (by omega) _ rfl ?_
  intro g cap w' hown hg hat hlt
  have e : Dk.hcs hs ++ [V, Value.int .i64 (m : Nat)] = Dk.hcs (hs ++ [⟨V, N, m⟩]) := by rw [Dk.hcs_app]; rfl
  rw [e] at hown
  have hgn : ∀ k, k < w.heap.size → kv.ownBlock ≠ some k → g ≠ k := fun k hk1 hk2 e1 => by
    subst e1
    rcases hat with e2 | e2
    · exact hk2 e2
    · rw [hsz] at e2; omega
  have hbl : ∀ k, k < w.heap.size → kv.ownBlock ≠ some k → w'.heap[k]? = w.heap[k]? := fun k hk1 hk2 => (hg.block k (by omega) (fun e1 => hk2 e1.symm)).trans (hb.block k hk1)
  have hwo : Wo own w w' := (Wo.ofBelow hb).grown hg fun k e1 => .inl (h.hh.ko k e1)
  have hvl : ∀ k, V.ownBlock = some k → k < w.heap.size := fun k e1 => (h.vr.lt k e1).2
  have hvr' : w'.ownsRow 0 5 1 V N (Lib.byteCells (Dk.sgs m N)) := Dk.row_heap h.vr fun k e1 => hbl k (hvl k e1) (h.vk k e1)
  refine hK (some ⟨g, 0, none⟩) cap w' (fun k => own k ∨ V.ownBlock = some k ∨ (w.heap.size ≤ k ∧ k < w'.heap.size)) ⟨⟨by rw [List.length_append]; exact hown, fun k e1 => ?_, fun x hx => ?_, fun k e1 => ?_⟩, hvr', fun k e1 e2 => ?_, fun x hx k e1 e2 => ?_⟩ (fun k e1 => by rcases e1 with e1 | e1 | e1; exact .inl e1; exact .inr (.inl e1); exact .inr (.inr e1.1)) hwo (fun k e1 => .inr (.inl e1))
  · cases e1
    rcases hat with e2 | e2
    · exact .inl (h.hh.ko _ e2)
    · refine .inr (.inr ⟨?_, hlt⟩)
      show w.heap.size ≤ g
      rw [e2, hsz]; omega
  · rcases List.mem_append.1 hx with hx | hx
    · have hh := h.hh.each x hx
      refine ⟨hh.1.keep fun k e1 => hbl k (h.hh.lt k (hh.2 k e1).1) (hh.2 k e1).2, fun k e1 => ⟨.inl (hh.2 k e1).1, fun e2 => ?_⟩⟩
      cases e2
      exact hgn _ (h.hh.lt _ (hh.2 _ e1).1) (hh.2 _ e1).2 rfl
    · rcases List.mem_singleton.1 hx with rfl
      refine ⟨Bs.ofRow hvr', fun k e1 => ⟨.inr (.inl e1), fun e2 => ?_⟩⟩
      cases e2
      exact hgn _ (hvl _ e1) (h.vk _ e1) rfl
  · rcases e1 with e1 | e1 | e1
    · exact Nat.lt_of_lt_of_le (h.hh.lt k e1) hwo.size
    · exact Nat.lt_of_lt_of_le (hvl k e1) hwo.size
    · exact e1.2
  · cases e2
    exact hgn _ (hvl _ e1) (h.vk _ e1) rfl
  · rcases List.mem_append.1 hx with hx | hx
    · exact h.pre x hx k e1 e2
    · rcases List.mem_singleton.1 hx with rfl
      obtain ⟨va, vc, hV, -, h3, -⟩ := Dk.rowForm h.vr
      refine ⟨rfl, Nat.le_refl _, vc, ?_⟩
      simp only
      rw [hV] at e1 ⊢
      cases va with
      | none => cases e1
      | some d =>
        obtain ⟨g', rfl⟩ := h3 d rfl
        cases e1
        rfl
/-- 'append' of one more mark. -/
theorem Try.appMark {ops : Array Oper} {rest : List Oper} {o : Oper} {a : Act} {Q : Exit → Act → World → Prop} (hgd : o.guard = none) (s y : Operand)
    (ho : o.op = .call { callee := .builtin .append, args := #[s, y], argTypes := #[55, 55] })
    {w : World} {own : Nat → Prop} {kv : Value} {hs : List Dk.Hd} {V : Value} {N : Nat} {m : Nat} (h : Try.KV w own kv hs V N m) (hlen : N ≤ 1000000000)
    (hs' : a.eval s = V) (hy : a.eval y = .slice (some ⟨w.heap.size, 0, none⟩) 1 1) (z : Int) (hz : z = ((Dk.sg m N).toNat : Nat))
    (hK : ∀ ad cap w1, Try.KV w1 own kv hs (.slice ad (N + 1) cap) (N + 1) m → (∀ k, (Value.slice ad (N + 1) cap).ownBlock = some k → V.ownBlock = some k ∨ w.heap.size ≤ k) → Wo (fun k => V.ownBlock = some k) w w1 → wpList Try.prog ops Q rest (a.put o.dst (.slice ad (N + 1) cap)) w1) : wpList Try.prog ops Q (o :: rest) a (w.alloc (.cells #[.int .u8 z] 5)) := by
  subst hz
  obtain ⟨i0, hi0, hz0, hz1, hz2⟩ := info_parts Try.info_u8
  obtain ⟨va, vc, hV, hn0, h3, hNc⟩ := Dk.rowForm h.vr
  have hnb : (w.alloc (.cells #[.int .u8 ((Dk.sg m N).toNat : Nat)] 5)).heap[w.heap.size]? = some (.cells #[.int .u8 ((Dk.sg m N).toNat : Nat)] 5 (0, 0)) := heap_alloc_new w _
  have hb : Below w.heap.size w (w.alloc (.cells #[.int .u8 ((Dk.sg m N).toNat : Nat)] 5)) := (Below.refl w.heap.size w).alloc (Nat.le_refl _) _
  have hsz : (w.alloc (.cells #[.int .u8 ((Dk.sg m N).toNat : Nat)] 5)).heap.size = w.heap.size + 1 := by simp
  have hrow1 := Dk.row_heap h.vr fun k e => hb.block k (h.vr.lt k e).2
  have e : Lib.byteCells (Dk.sgs m N) ++ [Value.int .u8 ((Dk.sg m N).toNat : Nat)] = Lib.byteCells (Dk.sgs m (N + 1)) := by rw [Dk.sgs_succ]; simp [Lib.byteCells]
  have hHsb := h.hh.keep (fun k e => hb.block k (h.hh.lt k e)) hb.size
  by_cases hfull : vc < N + 1
  · refine wpList_append_grows _ hgd s y 55 ho 5 i0 _ 1 1 Try.underlying55 hi0 hz0 hz1 hz2 rfl (by omega) va N vc (Lib.byteCells (Dk.sgs m N)) (hs'.trans hV) (fun e1 => ⟨(hn0 e1).2, (hn0 e1).1⟩) (by rw [byteCells_len, Dk.sgs_len, Nat.mul_one]) (fun b e1 j u hu => ?_) ⟨w.heap.size, 0, none⟩ 1 1 [.int .u8 ((Dk.sg m N).toNat : Nat)] hy rfl (World.news_of_block hnb) (by simp [Value.oneCell']) hfull (by unfold maxLen; omega) (by omega) ?_
    · obtain ⟨g, rfl⟩ := h3 b e1
      have hr := hrow1
      rw [hV, e1] at hr
      exact hr.cells (g := g) rfl j u hu
    · intro v' w' hown hg
      rw [e] at hown
      obtain ⟨va', vc', hV', -⟩ := Dk.rowForm hown
      have hwo : Wo (fun k => V.ownBlock = some k) w w' := (Wo.ofBelow hb).grown hg fun k e1 => by cases e1
      have hbl : ∀ k, k < w.heap.size → w'.heap[k]? = w.heap[k]? := fun k hk => (hg.block k (by omega) (fun e1 => by cases e1)).trans (hb.block k hk)
      subst hV'
      refine hK va' vc' w' ⟨h.hh.keep (fun k e1 => hbl k (h.hh.lt k e1)) hwo.size, ⟨hown.1, hown.2.elim Or.inl fun ⟨g, c, cur, q1, q2, q3⟩ => Or.inr ⟨g, c, cur, q1, Nat.zero_le _, q3⟩⟩, fun k e1 e2 => ?_, fun x hx k e1 e2 => ?_⟩ (fun k e1 => .inr (by have := (hown.lt k e1).1; omega)) hwo
      · have := (hown.lt k e1).1; have := h.hh.lt k (h.hh.ko k e2); omega
      · have := (hown.lt k e2).1; have := h.hh.lt k ((h.hh.each x hx).2 k e1).1; omega
  · cases va with
    | none => have := hn0 rfl; omega
    | some d =>
      obtain ⟨g, rfl⟩ := h3 d rfl
      rw [hV] at hrow1
      refine wpList_append_fits _ hgd s y 55 ho 0 5 i0 1 Try.underlying55 hi0 hz1 g N vc _ (hs'.trans hV) hrow1 ⟨w.heap.size, 0, none⟩ 1 1 [.int .u8 ((Dk.sg m N).toNat : Nat)] hy rfl (World.news_of_block hnb) (by simp [Value.oneCell']) (by omega) ?_
      intro w' hown hg
      rw [e] at hown
      have hVg : V.ownBlock = some g := by rw [hV]; rfl
      have hgl := (h.vr.lt g hVg).2
      have hwo : Wo (fun k => V.ownBlock = some k) w w' := (Wo.ofBelow hb).grown hg fun k e1 => .inl (by rw [hVg]; exact e1)
      have hbl : ∀ k, k < w.heap.size → g ≠ k → w'.heap[k]? = w.heap[k]? := fun k hk hk2 => (hg.block k (by omega) (fun e1 => hk2 (by cases e1; rfl))).trans (hb.block k hk)
      refine hK (some ⟨g, 0, none⟩) vc w' ⟨⟨Dk.row_heap h.hh.row fun k e1 => hbl k (h.hh.row.lt k e1).2 (fun e2 => h.vk g hVg (by rw [e2]; exact e1)), h.hh.ko, fun x hx => ⟨?_, (h.hh.each x hx).2⟩, fun k e1 => Nat.lt_of_lt_of_le (h.hh.lt k e1) hwo.size⟩, hown, fun k e1 => ?_, fun x hx k e1 e2 => ?_⟩ (fun k e1 => .inl (by rw [hVg]; exact e1)) hwo
      · have hx1 := h.hh.each x hx
        by_cases hxg : x.v.ownBlock = some g
        · obtain ⟨p1, p2, c, p3⟩ := h.pre x hx g hxg hVg
          obtain ⟨xa, xc, x1, x2, -⟩ := hx1.1.ex
          rw [Dk.sgs_len] at x1 x2
          rw [p3] at x1
          cases x1
          rw [p3, p1]
          exact Dk.bs_pre hown rfl (by omega) x2
        · exact hx1.1.keep fun k e1 => hbl k (h.hh.lt k (hx1.2 k e1).1) (fun e2 => hxg (by rw [e2]; exact e1))
      · cases e1; exact h.vk g hVg
      · cases e2
        obtain ⟨p1, p2, p3⟩ := h.pre x hx g e1 hVg
        exact ⟨p1, by omega, p3⟩
end Go.Proofs
