/-
  Laid together by merge.py of Vg Vh.
-/
import Derived.Test.YtlfiebapfgpchaaGreatDoorSqW1
import Derived.Laws.AppendOwnNone
import Derived.BigRegion
namespace Go.Proofs
open Go.RowKit Go.Wi
/-- 'append' of bytes to nothing: a copy. -/
theorem Tryz.appCopy {ops : Array Oper} {rest : List Oper} {o : Oper} {a : Act} {Q : Exit → Act → World → Prop} (hgd : o.guard = none) (s y : Operand)
    (ho : o.op = .call { callee := .builtin .append, args := #[s, y], argTypes := #[29, 29] })
    {w : World} {v : Value} {l : List UInt8} (h : Bs w v l) (hs : a.eval s = .slice none 0 0) (hy : a.eval y = v) (hlen : l.length ≤ 140737488355328)
    (hK : ∀ ad cap w1, w1.ownsRow w.heap.size 5 1 (.slice ad l.length cap) l.length (Lib.byteCells l) → Below w.heap.size w w1 → wpList Tryz.prog ops Q rest (a.put o.dst (.slice ad l.length cap)) w1) : wpList Tryz.prog ops Q (o :: rest) a w := by
  obtain ⟨i0, hi0, hz0, hz1, hz2⟩ := info_parts Tryz.info_u8
  obtain ⟨ad, cap, rfl, hcap, hn, h1⟩ := h.ex
  have hnil : w.ownsRow w.heap.size 5 1 (.slice none 0 0) 0 [] := World.ownsRow_nil _ _ _ _
  cases ad with
  | none =>
    have h0 := hn rfl
    subst h0
    have hl : l = [] := List.eq_nil_of_length_eq_zero (by omega)
    subst hl
    refine wpList_append_own_none hgd s y 29 ho w.heap.size 5 i0 1 Tryz.underlying29 hi0 _ 0 [] hs hnil hy ?_
    exact hK none 0 w hnil (Below.refl _ _)
  | some d =>
    have hnews : ∀ j u, (Lib.byteCells l)[j]? = some u → w.cell? (d.add j) = some u := by
      rcases h1 with rfl | ⟨g, oo, e, _, h2⟩
      · intro j u hu; simp [Lib.byteCells] at hu
      · cases e
        intro j u hu
        rw [Addr.add_mid]
        exact h2 j u hu
    refine wpList_append_own w hgd s y 29 ho w.heap.size 5 i0 _ 1 1 Tryz.underlying29 hi0 hz0 hz1 hz2 rfl (by omega) _ 0 [] hs hnil d l.length cap (Lib.byteCells l) hy (by rw [byteCells_len]; omega) hnews (by
      intro u hu
      simp only [Lib.byteCells, List.mem_map] at hu
      obtain ⟨b, _, rfl⟩ := hu
      rfl) (by unfold maxLen; omega) (by omega) (Nat.le_refl _) ?_
    intro v' w' hown hg _
    rw [Nat.zero_add, List.nil_append] at hown
    have hb : Below w.heap.size w w' := (Below.refl _ w).grown hg (Nat.le_refl _) fun k e => by cases e
    rcases hown.2 with ⟨rfl, e0⟩ | ⟨g, cap', cur, rfl, _⟩
    · have := hK none 0 w'
      rw [e0] at this hown
      exact this hown hb
    · exact hK _ _ w' hown hb
set_option maxHeartbeats 1000000 in
theorem Tryz.wBytes_any {w : World} {own : Nat → Prop} {x : Nat} {l : List UInt8} (h : Tryz.Wt 132 w own x l) (hlen : l.length ≤ 140737488355328) :
    Calls Tryz.prog 52 #[.pointer (some ⟨x, 0, none⟩)] w fun e w' => ∃ ad cap, e = .returned (.slice ad l.length cap) ∧ w'.ownsRow w.heap.size 5 1 (.slice ad l.length cap) l.length (Lib.byteCells l) ∧ Below w.heap.size w w' := by
  obtain ⟨V, hx, hrow, hV, hVo⟩ := h.ex
  have hc := cell_of_row w x 0 _ _ _ hx
  have hbs := Bs.ofRow hrow
  have Hlen : Hid (l.length ≤ 140737488355328) := hlen
  clear hlen hx hrow
  go_enter Tryz.func52, Tryz.ntmps52
  go_wp2_with (first | (at_builtin; refine Tryz.appCopy rfl _ _ rfl hbs rfl rfl Hlen.out ?_; intro ad1 cap1 w1 hown hb) | fail)
  go_ret
  exact ⟨_, _, rfl, hown, hb⟩
set_option maxHeartbeats 1000000 in
theorem Tryz.newWriter_any (w : World) :
    Calls Tryz.prog 49 #[] w fun e w' => ∃ x, e = .returned (.pointer (some ⟨x, 0, none⟩)) ∧ Tryz.Wt 132 w' (fun k => w.heap.size ≤ k ∧ k < w'.heap.size) x [] ∧ Below w.heap.size w w' := by
  go_enter Tryz.func49, Tryz.ntmps49
  go_wp2
  go_ret
  refine ⟨w.heap.size, rfl, ⟨⟨_, heap_alloc_new w _, World.ownsRow_nil _ _ _ _, by simp [Value.ownBlock], fun k e => by cases e⟩, ⟨Nat.le_refl _, by simp⟩, fun k e => e.2⟩, (Below.refl _ w).alloc (Nat.le_refl _) _⟩
/-- What lies at a reader's fault. -/
def Tryz.Fv (w : World) (own : Nat → Prop) (x : Nat) (fv : Option Addr) (f : Option Nat) : Prop :=
  (f = none ∧ fv = none) ∨ ∃ a y : Nat, f = some a ∧ fv = some ⟨y, 0, none⟩ ∧ w.heap[y]? = some (.cells #[.int .i64 a, .int .i64 60] 167 (0, 0)) ∧ y ≠ x ∧ own y
/-- A reader, all of it in blocks of its own. -/
structure Tryz.Rd (w : World) (own : Nat → Prop) (x : Nat) (s : Rs) : Prop where
  ex : ∃ V fv, w.heap[x]? = some (.cells #[V, .int .i64 s.p, .pointer fv] 189 (0, 0)) ∧ Bs w V s.t ∧ V.ownBlock ≠ some x ∧ (∀ k, V.ownBlock = some k → own k) ∧ Tryz.Fv w own x fv s.f
  ox : own x
  lt : ∀ k, own k → k < w.heap.size
  inn : s.In
  len : s.t.length ≤ 140737488355328
theorem Tryz.Rd.keep {w w' : World} {own : Nat → Prop} {x : Nat} {s : Rs} (h : Tryz.Rd w own x s) (hk : ∀ k, own k → w'.heap[k]? = w.heap[k]?) (hs : w.heap.size ≤ w'.heap.size) : Tryz.Rd w' own x s := by
  obtain ⟨V, fv, h1, h2, h3, h4, h5⟩ := h.ex
  refine ⟨⟨V, fv, (hk x h.ox).trans h1, h2.keep fun k e => hk k (h4 k e), h3, h4, ?_⟩, h.ox, fun k e => Nat.lt_of_lt_of_le (h.lt k e) hs, h.inn, h.len⟩
  rcases h5 with h5 | ⟨a, y, e1, e2, e3, e4, e5⟩
  · exact .inl h5
  · exact .inr ⟨a, y, e1, e2, (hk y e5).trans e3, e4, e5⟩
theorem Tryz.Rd.below {w w' : World} {own : Nat → Prop} {x : Nat} {s : Rs} (h : Tryz.Rd w own x s) (g : Below w.heap.size w w') : Tryz.Rd w' own x s :=
  h.keep (fun k e => g.block k (h.lt k e)) g.size
theorem Tryz.Rd.drewN {w : World} {own : Nat → Prop} {x : Nat} {s : Rs} (h : Tryz.Rd w own x s) (n : Nat) : Tryz.Rd (w.drewN n) own x s :=
  h.keep (fun _ _ => rfl) (Nat.le_refl _)
/-- What a reader's call leaves. -/
structure Tryz.RChg (own : Nat → Prop) (w w' : World) (x : Nat) (s : Rs) : Prop where
  ex : ∃ own', Tryz.Rd w' own' x s ∧ ∀ k, own' k → own k ∨ w.heap.size ≤ k
  wo : Wo (fun k => k = x) w w'
theorem Tryz.RChg.refl {own : Nat → Prop} {w : World} {x : Nat} {s : Rs} (h : Tryz.Rd w own x s) : Tryz.RChg own w w x s := ⟨⟨own, h, fun _ e => .inl e⟩, Wo.refl _ _⟩
theorem Tryz.RChg.drewN {own : Nat → Prop} {w w' : World} {x : Nat} {s : Rs} (h : Tryz.RChg own w w' x s) (n : Nat) : Tryz.RChg own w (w'.drewN n) x s := by
  obtain ⟨own', h1, h2⟩ := h.ex
  exact ⟨⟨own', h1.drewN n, h2⟩, h.wo.drewN n⟩
theorem Tryz.RChg.trans {own own1 : Nat → Prop} {w w1 w2 : World} {x : Nat} {s : Rs} (hw : Wo (fun k => k = x) w w1) (ho : ∀ k, own1 k → own k ∨ w.heap.size ≤ k) (g : Tryz.RChg own1 w1 w2 x s) : Tryz.RChg own w w2 x s := by
  obtain ⟨own2, h1, h2⟩ := g.ex
  have hs := hw.size
  refine ⟨⟨own2, h1, fun k e => ?_⟩, hw.trans g.wo⟩
  rcases h2 k e with e1 | e1
  · exact ho k e1
  · exact .inr (by omega)
/-- The place is set. -/
theorem Tryz.Rd.setP {w : World} {own : Nat → Prop} {x : Nat} {s : Rs} (h : Tryz.Rd w own x s) (q : Nat) (v : Int) (hv : v = q) (hq : q ≤ s.t.length) : Tryz.RChg own w (w.setCell ⟨x, 1, none⟩ (.int .i64 v)) x { s with p := q } := by
  subst hv
  obtain ⟨V, fv, h1, h2, h3, h4, h5⟩ := h.ex
  have hx2 := heap_setCell_same w x 1 _ 189 (.int .i64 q) h1
  have hot : ∀ k, k ≠ x → (w.setCell ⟨x, 1, none⟩ (.int .i64 q)).heap[k]? = w.heap[k]? := fun k hk => Below.heap_setCell w ⟨x, 1, none⟩ _ k hk
  refine ⟨⟨own, ⟨⟨V, fv, hx2, h2.keep fun k e => hot k (fun e1 => h3 (by rw [e, e1])), h3, h4, ?_⟩, h.ox, by simpa using h.lt, hq, h.len⟩, fun _ e => .inl e⟩, (Wo.refl _ w).setCell x 1 _ (.inl rfl)⟩
  rcases h5 with h5 | ⟨a, y, e1, e2, e3, e4, e5⟩
  · exact .inl h5
  · exact .inr ⟨a, y, e1, e2, (hot y e4).trans e3, e4, e5⟩
/-- A fault comes. -/
theorem Tryz.Rd.setF {w : World} {own : Nat → Prop} {x : Nat} {s : Rs} (h : Tryz.Rd w own x s) (_hf : s.f = none) (a : Nat) : Tryz.RChg own w ((w.alloc (.cells #[.int .i64 a, .int .i64 60] 167)).setCell ⟨x, 2, none⟩ (.pointer (some ⟨w.heap.size, 0, none⟩))) x { s with f := some a } := by
  obtain ⟨V, fv, h1, h2, h3, h4, h5⟩ := h.ex
  have hxl := h.lt x h.ox
  have hb : Below w.heap.size w (w.alloc (.cells #[.int .i64 a, .int .i64 60] 167)) := (Below.refl w.heap.size w).alloc (Nat.le_refl _) _
  have hn : (w.alloc (.cells #[.int .i64 a, .int .i64 60] 167)).heap[w.heap.size]? = some (.cells #[.int .i64 a, .int .i64 60] 167 (0, 0)) := heap_alloc_new w _
  have h1' := (hb.block x hxl).trans h1
  generalize w.alloc (.cells #[.int .i64 a, .int .i64 60] 167) = w1 at *
  have hx2 := heap_setCell_same w1 x 2 _ 189 (.pointer (some ⟨w.heap.size, 0, none⟩)) h1'
  have hot : ∀ k, k ≠ x → (w1.setCell ⟨x, 2, none⟩ (.pointer (some ⟨w.heap.size, 0, none⟩))).heap[k]? = w1.heap[k]? := fun k hk => Below.heap_setCell w1 ⟨x, 2, none⟩ _ k hk
  have hs : (w1.setCell ⟨x, 2, none⟩ (.pointer (some ⟨w.heap.size, 0, none⟩))).heap.size = w1.heap.size := by simp
  refine ⟨⟨fun k => own k ∨ k = w.heap.size, ⟨⟨V, _, hx2, h2.keep fun k e => (hot k (fun e1 => h3 (by rw [e, e1]))).trans (hb.block k (h.lt k (h4 k e))), h3, fun k e => .inl (h4 k e), .inr ⟨a, w.heap.size, rfl, rfl, (hot _ (by omega)).trans hn, by omega, .inr rfl⟩⟩, .inl h.ox, ?_, h.inn, h.len⟩, fun k e => e.imp id (fun e => by omega)⟩, (Wo.ofBelow hb).setCell x 2 _ (.inl rfl)⟩
  rw [hs]
  rintro k (e | e)
  · exact Nat.lt_of_lt_of_le (h.lt k e) hb.size
  · have := block_lt hn; omega
set_option maxHeartbeats 1000000 in
theorem Tryz.left_any {w : World} {own : Nat → Prop} {x : Nat} {s : Rs} (h : Tryz.Rd w own x s) :
    Calls Tryz.prog 96 #[.pointer (some ⟨x, 0, none⟩)] w fun e w' => e = .returned (.int .i64 (s.t.length - s.p : Nat)) ∧ ∃ n, w' = w.drewN n := by
  obtain ⟨V, fv, hx, hbs, hV, hVo, hfv⟩ := h.ex
  have c0 := cell_of_row w x 0 _ _ _ hx
  have c1 := cell_of_row w x 1 _ _ _ hx
  obtain ⟨ad, cap, rfl, hcap, hn, h1⟩ := hbs.ex
  have hin := h.inn
  have hlen := h.len
  unfold Rs.In at hin
  have hw : wrap64 ((s.t.length : Int) - s.p) = (s.t.length - s.p : Nat) := by unfold wrap64; omega
  clear hx h1 hlen hfv h hbs
  go_enter Tryz.func96, Tryz.ntmps96
  go_wp2
  go_region
  go_wp2
  go_ret
  exact ⟨by simp [hw], _, rfl⟩
set_option maxHeartbeats 1000000 in
theorem Tryz.fail_any {w : World} {own : Nat → Prop} {x : Nat} {s : Rs} (h : Tryz.Rd w own x s) (a : Nat) (_ha : a < 9223372036854775807) :
    Calls Tryz.prog 97 #[.pointer (some ⟨x, 0, none⟩), .int .i64 a] w fun e w' => (∃ v, e = .returned v) ∧ Tryz.RChg own w w' x (s.fail a) := by
  obtain ⟨V, fv, hx, hbs, hV, hVo, hfv⟩ := h.ex
  have c2 := cell_of_row w x 2 _ _ _ hx
  have f2 := frozen_of_row w x 2 _ _ hx
  clear hx hbs
  rcases hfv with ⟨hf, rfl⟩ | ⟨b, y, hf, rfl, hy, hyx, hyo⟩
  · have hR := h.setF hf a
    have he : s.fail a = { s with f := some a } := by unfold Rs.fail; rw [hf]
    rw [he]
    clear he hf
    have hc2 : (w.alloc (.cells #[.int .i64 a, .int .i64 60] 167)).cell? ⟨x, 2, none⟩ = some (.pointer none) := (((Below.refl w.heap.size w).alloc (Nat.le_refl _) _).cell (p := ⟨x, 2, none⟩) (h.lt x h.ox)).trans c2
    have hf2 : (w.alloc (.cells #[.int .i64 a, .int .i64 60] 167)).frozen? ⟨x, 2, none⟩ = false := (((Below.refl w.heap.size w).alloc (Nat.le_refl _) _).frozen (p := ⟨x, 2, none⟩) (h.lt x h.ox)).trans f2
    go_enter Tryz.func97, Tryz.ntmps97
    go_wp2
    go_end0
    exact ⟨⟨_, rfl⟩, hR⟩
  · have he : s.fail a = s := by unfold Rs.fail; rw [hf]
    rw [he]
    have hR := Tryz.RChg.refl h
    clear he hf h hy
    go_enter Tryz.func97, Tryz.ntmps97
    go_wp2
    go_end0
    exact ⟨⟨_, rfl⟩, hR⟩
end Go.Proofs

namespace Go.Proofs
open Go.RowKit Go.Wi
set_option maxHeartbeats 1000000 in
theorem Tryz.end_any {w : World} {own : Nat → Prop} {x : Nat} {s : Rs} (h : Tryz.Rd w own x s) :
    Calls Tryz.prog 89 #[.pointer (some ⟨x, 0, none⟩)] w fun e w' => e = .returned (.bool s.fin) ∧ ∃ n, w' = w.drewN n := by
  obtain ⟨V, fv, hx, hbs, hV, hVo, hfv⟩ := h.ex
  have c2 := cell_of_row w x 2 _ _ _ hx
  have hl := Tryz.left_any h
  have hin := h.inn
  unfold Rs.In at hin
  clear hx hbs h
  rcases hfv with ⟨hf, rfl⟩ | ⟨b, y, hf, rfl, hy, hyx, hyo⟩
  · have he : s.fin = decide (s.t.length - s.p = 0) := by
      unfold Rs.fin
      rw [hf]
      by_cases e : s.p = s.t.length
      · simp [e]
      · rw [decide_eq_false (by omega)]; simp [e]
    rw [he]
    generalize s.t.length - s.p = n at hl
    clear he hf hin
    go_enter Tryz.func89, Tryz.ntmps89
    by_cases h0 : n = 0
    · subst h0
      go_wp2_with (first | (go_at_call 96; refine hl.mono ?_; clear hl; rintro e w2 ⟨rfl, m, rfl⟩) | fail)
      go_ret
      exact ⟨rfl, _, rfl⟩
    · have q0 : ¬ (n : Int) = 0 := by omega
      go_wp2_with (first | (go_at_call 96; refine hl.mono ?_; clear hl; rintro e w2 ⟨rfl, m, rfl⟩) | fail)
      go_ret
      exact ⟨by simp [h0], _, rfl⟩
  · have he : s.fin = false := by unfold Rs.fin; rw [hf]; rfl
    rw [he]
    clear he hf hy hl
    go_enter Tryz.func89, Tryz.ntmps89
    go_wp2
    go_ret
    exact ⟨rfl, 0, rfl⟩
set_option maxHeartbeats 1000000 in
theorem Tryz.newReader_any {w : World} {v : Value} {l : List UInt8} (h : Bs w v l) (hlen : l.length ≤ 140737488355328) :
    Calls Tryz.prog 86 #[v] w fun e w' => ∃ x, e = .returned (.pointer (some ⟨x, 0, none⟩)) ∧ Tryz.Rd w' (fun k => w.heap.size ≤ k ∧ k < w'.heap.size) x ⟨l, 0, none⟩ ∧ Below w.heap.size w w' := by
  have Hlen : Hid (l.length ≤ 140737488355328) := hlen
  clear hlen
  go_enter Tryz.func86, Tryz.ntmps86
  go_wp2_with (first | (at_builtin; refine Tryz.appCopy rfl _ _ rfl h rfl rfl Hlen.out ?_; intro ad1 cap1 w1 hown hb) | fail)
  go_ret
  have hsz := hb.size
  have hb2 : Below w1.heap.size w1 (w1.alloc (.cells #[.slice ad1 l.length cap1, .int .i64 0, .pointer none] 189)) := (Below.refl _ w1).alloc (Nat.le_refl _) _
  have hs2 : (w1.alloc (.cells #[.slice ad1 l.length cap1, .int .i64 0, .pointer none] 189)).heap.size = w1.heap.size + 1 := by simp
  refine ⟨w1.heap.size, rfl, ⟨⟨_, _, heap_alloc_new w1 _, (Bs.ofRow hown).below hb2 fun k e => (hown.lt k e).2, ?_, ?_, .inl ⟨rfl, rfl⟩⟩, ⟨hsz, by rw [hs2]; omega⟩, fun k e => e.2, Nat.zero_le _, Hlen.out⟩, hb.trans (hb2.mono hsz)⟩
  · intro e
    have := (hown.lt _ e).2
    omega
  · intro k e
    have := hown.lt k e
    exact ⟨this.1, by rw [hs2]; omega⟩
end Go.Proofs
