/-
  A QUEUE IN MEMORY (things: int).
-/
import Derived.Test.YtfchhiphjebkfaaQa
namespace Go.Proofs
open Go.RowKit Go.Wi Go.Qu
theorem Try.infoI : (Try.prog.info? 3).map (fun i => (i.zero, i.size, i.bytes)) = some (some (Value.int .i64 (0 : Int)), 1, 8) := by kernel_rfl
/-- A queue, all of it in blocks of its own. -/
structure Try.QuI (w : World) (own : Nat → Prop) (b : Nat) (s : Qs Int) : Prop where
  ex : ∃ v g, w.heap[b]? = some (.cells #[.int .i64 s.size, .int .i64 s.base, .int .i64 s.most, v, .int .i64 s.f, .int .i64 s.u, .int .i64 s.d] 49 (0, 0)) ∧ Row 3 w v g (s.l.map (Value.int .i64)) ∧ g ≠ some b ∧ ∀ k, g = some k → own k
  ox : own b
  lt : ∀ k, own k → k < w.heap.size
  inn : s.In
theorem Try.QuI.keep {w w' : World} {own : Nat → Prop} {b : Nat} {s : Qs Int} (h : Try.QuI w own b s) (hk : ∀ k, own k → w'.heap[k]? = w.heap[k]?) (hs : w.heap.size ≤ w'.heap.size) : Try.QuI w' own b s := by
  obtain ⟨v, g, h1, h2, h3, h4⟩ := h.ex
  exact ⟨⟨v, g, (hk b h.ox).trans h1, h2.keep fun k e => hk k (h4 k e), h3, h4⟩, h.ox, fun k e => Nat.lt_of_lt_of_le (h.lt k e) hs, h.inn⟩
theorem Try.QuI.below {w w' : World} {own : Nat → Prop} {b : Nat} {s : Qs Int} (h : Try.QuI w own b s) (g : Below w.heap.size w w') : Try.QuI w' own b s :=
  h.keep (fun k e => g.block k (h.lt k e)) g.size
/-- What a call leaves. -/
structure Try.QCI (own : Nat → Prop) (w w' : World) (b : Nat) (s : Qs Int) : Prop where
  ex : ∃ own', Try.QuI w' own' b s ∧ ∀ k, own' k → own k ∨ w.heap.size ≤ k
  wo : Wo own w w'
theorem Try.QCI.refl {own : Nat → Prop} {w : World} {b : Nat} {s : Qs Int} (h : Try.QuI w own b s) : Try.QCI own w w b s := ⟨⟨own, h, fun _ e => .inl e⟩, Wo.refl _ _⟩
theorem Try.QCI.ofBelow {own : Nat → Prop} {w w' : World} {b : Nat} {s : Qs Int} (h : Try.QuI w own b s) (g : Below w.heap.size w w') : Try.QCI own w w' b s := ⟨⟨own, h.below g, fun _ e => .inl e⟩, Wo.ofBelow g⟩
theorem Try.QCI.trans {own own1 : Nat → Prop} {w w1 w2 : World} {b : Nat} {s : Qs Int} (hw : Wo own w w1) (ho : ∀ k, own1 k → own k ∨ w.heap.size ≤ k) (g : Try.QCI own1 w1 w2 b s) : Try.QCI own w w2 b s := by
  obtain ⟨own2, h1, h2⟩ := g.ex
  have hs := hw.size
  refine ⟨⟨own2, h1, fun k e => ?_⟩, hw.step ho g.wo⟩
  rcases h2 k e with e1 | e1
  · exact ho k e1
  · exact .inr (by omega)
/-- The whole block is laid anew, its row stays. -/
theorem Try.QuI.set {w w' : World} {own : Nat → Prop} {b : Nat} {s : Qs Int} {v : Value} {g : Option Nat} (h : Try.QuI w own b s) (hr : Row 3 w v g (s.l.map (Value.int .i64))) (hg : g ≠ some b) (ho : ∀ k, g = some k → own k) (s' : Qs Int) (hl : s'.l = s.l) (hin : s'.In)
    (hb : w'.heap[b]? = some (.cells #[.int .i64 s'.size, .int .i64 s'.base, .int .i64 s'.most, v, .int .i64 s'.f, .int .i64 s'.u, .int .i64 s'.d] 49 (0, 0))) (hk : ∀ k, k ≠ b → w'.heap[k]? = w.heap[k]?) (hz : w'.heap.size = w.heap.size) (hwo : Wo own w w') : Try.QCI own w w' b s' := by
  refine ⟨⟨own, ⟨⟨v, g, hb, ?_, hg, ho⟩, h.ox, fun k e => by rw [hz]; exact h.lt k e, hin⟩, fun _ e => .inl e⟩, hwo⟩
  rw [hl]
  exact hr.keep fun k e => hk k fun e1 => hg (by rw [e, e1])
set_option maxHeartbeats 1000000 in
theorem Try.takeI {w : World} {own : Nat → Prop} {b : Nat} {s : Qs Int} (h : Try.QuI w own b s) {x : Int} {r : List Int} (hl : s.l = x :: r) :
    Calls Try.prog 22 #[.pointer (some ⟨b, 0, none⟩)] w fun e w' => e = .returned (Value.int .i64 x) ∧ Try.QCI own w w' b { s with l := r } := by
  obtain ⟨v, g, hb, hr, hg, ho⟩ := h.ex
  rw [hl] at hr
  obtain ⟨k, o, cap, rfl, rfl, hcap, hkl, hcell, hfro, hset⟩ := hr.cons
  have hkb : k ≠ b := fun e => hg (by rw [e])
  have c3 := cell_of_row w b 3 _ _ _ hb
  have f3 := frozen_of_row w b 3 _ _ hb
  have ck : w.cell? ⟨k, o, none⟩ = some (Value.int .i64 x) := hcell 0 _ rfl
  have fk := hfro o
  have hin : ({ s with l := r } : Qs Int).In := by have := h.inn.tail; rw [hl] at this; exact this
  have hsz : ∀ z v', ((w.setCell ⟨k, o, none⟩ z).setCell ⟨b, 3, none⟩ v').heap.size = w.heap.size := fun z v' => by simp
  have hbl : ∀ z v', ((w.setCell ⟨k, o, none⟩ z).setCell ⟨b, 3, none⟩ v').heap[b]? = some (.cells #[.int .i64 s.size, .int .i64 s.base, .int .i64 s.most, v', .int .i64 s.f, .int .i64 s.u, .int .i64 s.d] 49 (0, 0)) := fun z v' =>
    heap_setCell_same _ b 3 _ _ v' ((Below.heap_setCell w ⟨k, o, none⟩ z b (Ne.symm hkb)).trans hb)
  have hot : ∀ z v' (j : Nat), j ≠ b → ((w.setCell ⟨k, o, none⟩ z).setCell ⟨b, 3, none⟩ v').heap[j]? = (w.setCell ⟨k, o, none⟩ z).heap[j]? := fun z v' j hj => Below.heap_setCell _ ⟨b, 3, none⟩ v' j hj
  have hwo : ∀ z v', Wo own w ((w.setCell ⟨k, o, none⟩ z).setCell ⟨b, 3, none⟩ v') := fun z v' => ((Wo.refl own w).setCell k o z (.inl (ho k rfl))).setCell b 3 v' (.inl h.ox)
  have key : ∀ z v' g', Row 3 (w.setCell ⟨k, o, none⟩ z) v' g' (r.map (Value.int .i64)) → (g' = none ∨ g' = some k) → Try.QCI own w ((w.setCell ⟨k, o, none⟩ z).setCell ⟨b, 3, none⟩ v') b { s with l := r } := fun z v' g' h1 h2 =>
    ⟨⟨own, ⟨⟨v', g', hbl z v', h1.keep fun j e => hot z v' j (fun e1 => by rcases h2 with h2 | h2 <;> rw [h2] at e; cases e; injection e with e; exact hkb (e.trans e1)), fun e => by rcases h2 with h2 | h2 <;> rw [h2] at e; cases e; injection e with e; exact hkb e, fun j e => by rcases h2 with h2 | h2 <;> rw [h2] at e; cases e; exact ho j e⟩, h.ox, fun j e => by rw [hsz]; exact h.lt j e, hin⟩, fun _ e => .inl e⟩, hwo z v'⟩
  simp only [List.length_map] at hcap hset c3
  by_cases hc1 : cap = 1
  · have hr0 : r = [] := List.eq_nil_of_length_eq_zero (by omega)
    subst hc1 hr0
    have K : Hid _ := fun z => key z _ none ((hset z).1 rfl) (.inl rfl)
    clear key hwo hot hbl hsz hset hfro hcell hr hb h ho hin hg hl
    simp only [List.length_nil] at c3
    go_enter Try.func22, Try.ntmps22
    go_wp2
    go_ret
    exact ⟨rfl, K.out _⟩
  · have hc2 : 1 < cap := by omega
    have K : Hid _ := fun z => key z _ (some k) ((hset z).2 hc2) (.inr rfl)
    have q1 : (r.length : Int) + 1 ≤ (cap : Int) := by omega
    have q2 : (1 : Int) < (cap : Int) := by omega
    clear key hwo hot hbl hsz hset hfro hcell hr hb h ho hin hg hl
    go_enter Try.func22, Try.ntmps22
    go_wp2
    go_ret
    exact ⟨rfl, K.out _⟩
end Go.Proofs
