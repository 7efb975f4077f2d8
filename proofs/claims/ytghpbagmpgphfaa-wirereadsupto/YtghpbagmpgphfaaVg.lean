/-
  NewWriter, Bytes, NewReader; A READER in memory; left, fail, End, Err.
-/
import Derived.Test.YtghpbagmpgphfaaVf
import Derived.Laws.AppendOwnNone
import Derived.BigRegion
namespace Go.Proofs
open Go.RowKit Go.Wi
/-- 'append' of bytes to nothing: a copy. -/
theorem Try.appCopy {ops : Array Oper} {rest : List Oper} {o : Oper} {a : Act} {Q : Exit → Act → World → Prop} (hgd : o.guard = none) (s y : Operand)
    (ho : o.op = .call { callee := .builtin .append, args := #[s, y], argTypes := #[22, 22] })
    {w : World} {v : Value} {l : List UInt8} (h : Bs w v l) (hs : a.eval s = .slice none 0 0) (hy : a.eval y = v) (hlen : l.length ≤ 140737488355328)
    (hK : ∀ ad cap w1, w1.ownsRow w.heap.size 5 1 (.slice ad l.length cap) l.length (Lib.byteCells l) → Below w.heap.size w w1 → wpList Try.prog ops Q rest (a.put o.dst (.slice ad l.length cap)) w1) : wpList Try.prog ops Q (o :: rest) a w := by
  obtain ⟨i0, hi0, hz0, hz1, hz2⟩ := info_parts Try.info_u8
  obtain ⟨ad, cap, rfl, hcap, hn, h1⟩ := h.ex
  have hnil : w.ownsRow w.heap.size 5 1 (.slice none 0 0) 0 [] := World.ownsRow_nil _ _ _ _
  cases ad with
  | none =>
    have h0 := hn rfl
    subst h0
    have hl : l = [] := List.eq_nil_of_length_eq_zero (by omega)
    subst hl
    refine wpList_append_own_none hgd s y 22 ho w.heap.size 5 i0 1 Try.underlying22 hi0 _ 0 [] hs hnil hy ?_
    exact hK none 0 w hnil (Below.refl _ _)
  | some d =>
    have hnews : ∀ j u, (Lib.byteCells l)[j]? = some u → w.cell? (d.add j) = some u := by
      rcases h1 with rfl | ⟨g, oo, e, _, h2⟩
      · intro j u hu; simp [Lib.byteCells] at hu
      · cases e
        intro j u hu
        rw [Addr.add_mid]
        exact h2 j u hu
    refine wpList_append_own w hgd s y 22 ho w.heap.size 5 i0 _ 1 1 Try.underlying22 hi0 hz0 hz1 hz2 rfl (by omega) _ 0 [] hs hnil d l.length cap (Lib.byteCells l) hy (by rw [byteCells_len]; omega) hnews (by
      intro u hu
      simp only [Lib.byteCells, List.mem_map] at hu
      obtain ⟨b, _, rfl⟩ := hu
      rfl) (by unfold maxLen; omega) (by omega) (Nat.le_refl _) ?_
    intro v' w' hown hg _
    rw [Nat.zero_add, List.nil_append] at hown
    have hb : Below w.heap.size w w' := (Below.refl _ w).grown hg (Nat.le_refl _) fun k e => by cases e
    rcases hown.2 with ⟨rfl, e0⟩ | ⟨g, cap', cur, rfl, _⟩
    · have := hK none 0 w'
      rw [e0] at this hown
      exact this hown hb
    · exact hK _ _ w' hown hb
set_option maxHeartbeats 1000000 in
theorem Try.bytes_any {w : World} {own : Nat → Prop} {x : Nat} {l : List UInt8} (h : Try.Wt 69 w own x l) (hlen : l.length ≤ 140737488355328) :
    Calls Try.prog 14 #[.pointer (some ⟨x, 0, none⟩)] w fun e w' => ∃ ad cap, e = .returned (.slice ad l.length cap) ∧ w'.ownsRow w.heap.size 5 1 (.slice ad l.length cap) l.length (Lib.byteCells l) ∧ Below w.heap.size w w' := by
  obtain ⟨V, hx, hrow, hV, hVo⟩ := h.ex
  have hc := cell_of_row w x 0 _ _ _ hx
  have hbs := Bs.ofRow hrow
  have Hlen : Hid (l.length ≤ 140737488355328) := hlen
  clear hlen hx hrow
  go_enter Try.func14, Try.ntmps14
  go_wp2_with (first | (at_builtin; refine Try.appCopy rfl _ _ rfl hbs rfl rfl Hlen.out ?_; intro ad1 cap1 w1 hown hb) | fail)
  go_ret
  exact ⟨_, _, rfl, hown, hb⟩
set_option maxHeartbeats 1000000 in
theorem Try.newWriter_any (w : World) :
    Calls Try.prog 10 #[] w fun e w' => ∃ x, e = .returned (.pointer (some ⟨x, 0, none⟩)) ∧ Try.Wt 69 w' (fun k => w.heap.size ≤ k ∧ k < w'.heap.size) x [] ∧ Below w.heap.size w w' := by
  go_enter Try.func10, Try.ntmps10
  go_wp2
  go_ret
  refine ⟨w.heap.size, rfl, ⟨⟨_, heap_alloc_new w _, World.ownsRow_nil _ _ _ _, by simp [Value.ownBlock], fun k e => by cases e⟩, ⟨Nat.le_refl _, by simp⟩, fun k e => e.2⟩, (Below.refl _ w).alloc (Nat.le_refl _) _⟩
/-- What lies at a reader's fault. -/
def Try.Fv (w : World) (own : Nat → Prop) (x : Nat) (fv : Option Addr) (f : Option Nat) : Prop :=
  (f = none ∧ fv = none) ∨ ∃ a y : Nat, f = some a ∧ fv = some ⟨y, 0, none⟩ ∧ w.heap[y]? = some (.cells #[.int .i64 a, .int .i64 60] 46 (0, 0)) ∧ y ≠ x ∧ own y
/-- A reader, all of it in blocks of its own. -/
structure Try.Rd (w : World) (own : Nat → Prop) (x : Nat) (s : Rs) : Prop where
  ex : ∃ V fv, w.heap[x]? = some (.cells #[V, .int .i64 s.p, .pointer fv] 59 (0, 0)) ∧ Bs w V s.t ∧ V.ownBlock ≠ some x ∧ (∀ k, V.ownBlock = some k → own k) ∧ Try.Fv w own x fv s.f
  ox : own x
  lt : ∀ k, own k → k < w.heap.size
  inn : s.In
  len : s.t.length ≤ 140737488355328
theorem Try.Rd.keep {w w' : World} {own : Nat → Prop} {x : Nat} {s : Rs} (h : Try.Rd w own x s) (hk : ∀ k, own k → w'.heap[k]? = w.heap[k]?) (hs : w.heap.size ≤ w'.heap.size) : Try.Rd w' own x s := by
  obtain ⟨V, fv, h1, h2, h3, h4, h5⟩ := h.ex
  refine ⟨⟨V, fv, (hk x h.ox).trans h1, h2.keep fun k e => hk k (h4 k e), h3, h4, ?_⟩, h.ox, fun k e => Nat.lt_of_lt_of_le (h.lt k e) hs, h.inn, h.len⟩
  rcases h5 with h5 | ⟨a, y, e1, e2, e3, e4, e5⟩
  · exact .inl h5
  · exact .inr ⟨a, y, e1, e2, (hk y e5).trans e3, e4, e5⟩
theorem Try.Rd.below {w w' : World} {own : Nat → Prop} {x : Nat} {s : Rs} (h : Try.Rd w own x s) (g : Below w.heap.size w w') : Try.Rd w' own x s :=
  h.keep (fun k e => g.block k (h.lt k e)) g.size
theorem Try.Rd.drewN {w : World} {own : Nat → Prop} {x : Nat} {s : Rs} (h : Try.Rd w own x s) (n : Nat) : Try.Rd (w.drewN n) own x s :=
  h.keep (fun _ _ => rfl) (Nat.le_refl _)
/-- What a reader's call leaves. -/
structure Try.RChg (own : Nat → Prop) (w w' : World) (x : Nat) (s : Rs) : Prop where
  ex : ∃ own', Try.Rd w' own' x s ∧ ∀ k, own' k → own k ∨ w.heap.size ≤ k
  wo : Wo (fun k => k = x) w w'
theorem Try.RChg.refl {own : Nat → Prop} {w : World} {x : Nat} {s : Rs} (h : Try.Rd w own x s) : Try.RChg own w w x s := ⟨⟨own, h, fun _ e => .inl e⟩, Wo.refl _ _⟩
theorem Try.RChg.drewN {own : Nat → Prop} {w w' : World} {x : Nat} {s : Rs} (h : Try.RChg own w w' x s) (n : Nat) : Try.RChg own w (w'.drewN n) x s := by
  obtain ⟨own', h1, h2⟩ := h.ex
  exact ⟨⟨own', h1.drewN n, h2⟩, h.wo.drewN n⟩
theorem Try.RChg.trans {own own1 : Nat → Prop} {w w1 w2 : World} {x : Nat} {s : Rs} (hw : Wo (fun k => k = x) w w1) (ho : ∀ k, own1 k → own k ∨ w.heap.size ≤ k) (g : Try.RChg own1 w1 w2 x s) : Try.RChg own w w2 x s := by
  obtain ⟨own2, h1, h2⟩ := g.ex
  have hs := hw.size
  refine ⟨⟨own2, h1, fun k e => ?_⟩, hw.trans g.wo⟩
  rcases h2 k e with e1 | e1
  · exact ho k e1
  · exact .inr (by omega)
/-- The place is set. -/
theorem Try.Rd.setP {w : World} {own : Nat → Prop} {x : Nat} {s : Rs} (h : Try.Rd w own x s) (q : Nat) (v : Int) (hv : v = q) (hq : q ≤ s.t.length) : Try.RChg own w (w.setCell ⟨x, 1, none⟩ (.int .i64 v)) x { s with p := q } := by
  subst hv
  obtain ⟨V, fv, h1, h2, h3, h4, h5⟩ := h.ex
  have hx2 := heap_setCell_same w x 1 _ 59 (.int .i64 q) h1
  have hot : ∀ k, k ≠ x → (w.setCell ⟨x, 1, none⟩ (.int .i64 q)).heap[k]? = w.heap[k]? := fun k hk => Below.heap_setCell w ⟨x, 1, none⟩ _ k hk
  refine ⟨⟨own, ⟨⟨V, fv, hx2, h2.keep fun k e => hot k (fun e1 => h3 (by rw [e, e1])), h3, h4, ?_⟩, h.ox, by simpa using h.lt, hq, h.len⟩, fun _ e => .inl e⟩, (Wo.refl _ w).setCell x 1 _ (.inl rfl)⟩
  rcases h5 with h5 | ⟨a, y, e1, e2, e3, e4, e5⟩
  · exact .inl h5
  · exact .inr ⟨a, y, e1, e2, (hot y e4).trans e3, e4, e5⟩
/-- A fault comes. -/
theorem Try.Rd.setF {w : World} {own : Nat → Prop} {x : Nat} {s : Rs} (h : Try.Rd w own x s) (_hf : s.f = none) (a : Nat) : Try.RChg own w ((w.alloc (.cells #[.int .i64 a, .int .i64 60] 46)).setCell ⟨x, 2, none⟩ (.pointer (some ⟨w.heap.size, 0, none⟩))) x { s with f := some a } := by
  obtain ⟨V, fv, h1, h2, h3, h4, h5⟩ := h.ex
  have hxl := h.lt x h.ox
  have hb : Below w.heap.size w (w.alloc (.cells #[.int .i64 a, .int .i64 60] 46)) := (Below.refl w.heap.size w).alloc (Nat.le_refl _) _
  have hn : (w.alloc (.cells #[.int .i64 a, .int .i64 60] 46)).heap[w.heap.size]? = some (.cells #[.int .i64 a, .int .i64 60] 46 (0, 0)) := heap_alloc_new w _
  have h1' := (hb.block x hxl).trans h1
  generalize w.alloc (.cells #[.int .i64 a, .int .i64 60] 46) = w1 at *
  have hx2 := heap_setCell_same w1 x 2 _ 59 (.pointer (some ⟨w.heap.size, 0, none⟩)) h1'
  have hot : ∀ k, k ≠ x → (w1.setCell ⟨x, 2, none⟩ (.pointer (some ⟨w.heap.size, 0, none⟩))).heap[k]? = w1.heap[k]? := fun k hk => Below.heap_setCell w1 ⟨x, 2, none⟩ _ k hk
  have hs : (w1.setCell ⟨x, 2, none⟩ (.pointer (some ⟨w.heap.size, 0, none⟩))).heap.size = w1.heap.size := by simp
  refine ⟨⟨fun k => own k ∨ k = w.heap.size, ⟨⟨V, _, hx2, h2.keep fun k e => (hot k (fun e1 => h3 (by rw [e, e1]))).trans (hb.block k (h.lt k (h4 k e))), h3, fun k e => .inl (h4 k e), .inr ⟨a, w.heap.size, rfl, rfl, (hot _ (by omega)).trans hn, by omega, .inr rfl⟩⟩, .inl h.ox, ?_, h.inn, h.len⟩, fun k e => e.imp id (fun e => by omega)⟩, (Wo.ofBelow hb).setCell x 2 _ (.inl rfl)⟩
  rw [hs]
  rintro k (e | e)
  · exact Nat.lt_of_lt_of_le (h.lt k e) hb.size
  · have := block_lt hn; omega
set_option maxHeartbeats 1000000 in
theorem Try.left_any {w : World} {own : Nat → Prop} {x : Nat} {s : Rs} (h : Try.Rd w own x s) :
    Calls Try.prog 32 #[.pointer (some ⟨x, 0, none⟩)] w fun e w' => e = .returned (.int .i64 (s.t.length - s.p : Nat)) ∧ ∃ n, w' = w.drewN n := by
  obtain ⟨V, fv, hx, hbs, hV, hVo, hfv⟩ := h.ex
  have c0 := cell_of_row w x 0 _ _ _ hx
  have c1 := cell_of_row w x 1 _ _ _ hx
  obtain ⟨ad, cap, rfl, hcap, hn, h1⟩ := hbs.ex
  have hin := h.inn
  have hlen := h.len
  unfold Rs.In at hin
  have hw : wrap64 ((s.t.length : Int) - s.p) = (s.t.length - s.p : Nat) := by unfold wrap64; omega
  clear hx h1 hlen hfv h hbs
  go_enter Try.func32, Try.ntmps32
  go_wp2
  go_region
  go_wp2
  go_ret
  exact ⟨by simp [hw], _, rfl⟩
set_option maxHeartbeats 1000000 in
theorem Try.fail_any {w : World} {own : Nat → Prop} {x : Nat} {s : Rs} (h : Try.Rd w own x s) (a : Nat) (_ha : a < 9223372036854775807) :
    Calls Try.prog 33 #[.pointer (some ⟨x, 0, none⟩), .int .i64 a] w fun e w' => (∃ v, e = .returned v) ∧ Try.RChg own w w' x (s.fail a) := by
  obtain ⟨V, fv, hx, hbs, hV, hVo, hfv⟩ := h.ex
  have c2 := cell_of_row w x 2 _ _ _ hx
  have f2 := frozen_of_row w x 2 _ _ hx
  clear hx hbs
  rcases hfv with ⟨hf, rfl⟩ | ⟨b, y, hf, rfl, hy, hyx, hyo⟩
  · have hR := h.setF hf a
    have he : s.fail a = { s with f := some a } := by unfold Rs.fail; rw [hf]
    rw [he]
    clear he hf
    have hc2 : (w.alloc (.cells #[.int .i64 a, .int .i64 60] 46)).cell? ⟨x, 2, none⟩ = some (.pointer none) := (((Below.refl w.heap.size w).alloc (Nat.le_refl _) _).cell (p := ⟨x, 2, none⟩) (h.lt x h.ox)).trans c2
    have hf2 : (w.alloc (.cells #[.int .i64 a, .int .i64 60] 46)).frozen? ⟨x, 2, none⟩ = false := (((Below.refl w.heap.size w).alloc (Nat.le_refl _) _).frozen (p := ⟨x, 2, none⟩) (h.lt x h.ox)).trans f2
    go_enter Try.func33, Try.ntmps33
    go_wp2
    go_end0
    exact ⟨⟨_, rfl⟩, hR⟩
  · have he : s.fail a = s := by unfold Rs.fail; rw [hf]
    rw [he]
    have hR := Try.RChg.refl h
    clear he hf h hy
    go_enter Try.func33, Try.ntmps33
    go_wp2
    go_end0
    exact ⟨⟨_, rfl⟩, hR⟩
end Go.Proofs
