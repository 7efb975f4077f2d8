/-
  THE DOCUMENT's QUEUE in memory.
-/
import Derived.Test.YtmbhadloedjfeaaQf
import Derived.Test.YtmbhadloedjfeaaQgS
import Derived.Test.YtmbhadloedjfeaaQi
import Derived.Test.YtmbhadloedjfeaaQlS
namespace Go.Proofs
open Go.RowKit Go.Wi Go.Qu
/-- The document's queue: all that was put, of which the first have gone. -/
structure Try.Rq (w : World) (own : Nat → Prop) (b : Nat) (s : Qs ByteArray) (m : Nat) : Prop where
  ex : ∃ (v : Value) (g : Option Nat) (L : List ByteArray) (gone : Nat), w.heap[b]? = some (.cells #[.int .i64 s.size, .int .i64 s.base, .int .i64 s.most, v, .int .i64 (gone : Nat), .int .i64 s.f, .int .i64 s.u, .int .i64 s.d] 58 (0, 0)) ∧ Row 9 w v g (L.map Value.string) ∧ g ≠ some b ∧ (∀ k, g = some k → own k) ∧ L.drop gone = s.l ∧ gone ≤ L.length ∧ L.length ≤ m
  ox : own b
  lt : ∀ k, own k → k < w.heap.size
  inn : s.In
theorem Try.Rq.keep {w w' : World} {own : Nat → Prop} {b m : Nat} {s : Qs ByteArray} (h : Try.Rq w own b s m) (hk : ∀ k, own k → w'.heap[k]? = w.heap[k]?) (hs : w.heap.size ≤ w'.heap.size) : Try.Rq w' own b s m := by
  obtain ⟨v, g, L, gone, h1, h2, h3, h4, h5⟩ := h.ex
  exact ⟨⟨v, g, L, gone, (hk b h.ox).trans h1, h2.keep fun k e => hk k (h4 k e), h3, h4, h5⟩, h.ox, fun k e => Nat.lt_of_lt_of_le (h.lt k e) hs, h.inn⟩
theorem Try.Rq.below {w w' : World} {own : Nat → Prop} {b m : Nat} {s : Qs ByteArray} (h : Try.Rq w own b s m) (g : Below w.heap.size w w') : Try.Rq w' own b s m :=
  h.keep (fun k e => g.block k (h.lt k e)) g.size
theorem Try.Rq.mono {w : World} {own : Nat → Prop} {b m m' : Nat} {s : Qs ByteArray} (h : Try.Rq w own b s m) (hm : m ≤ m') : Try.Rq w own b s m' := by
  obtain ⟨v, g, L, gone, h1, h2, h3, h4, h5, h6, h7⟩ := h.ex
  exact ⟨⟨v, g, L, gone, h1, h2, h3, h4, h5, h6, Nat.le_trans h7 hm⟩, h.ox, h.lt, h.inn⟩
structure Try.RC (own : Nat → Prop) (w w' : World) (b : Nat) (s : Qs ByteArray) (m : Nat) : Prop where
  ex : ∃ own', Try.Rq w' own' b s m ∧ ∀ k, own' k → own k ∨ w.heap.size ≤ k
  wo : Wo own w w'
theorem Try.RC.trans {own own1 : Nat → Prop} {w w1 w2 : World} {b m : Nat} {s : Qs ByteArray} (hw : Wo own w w1) (ho : ∀ k, own1 k → own k ∨ w.heap.size ≤ k) (g : Try.RC own1 w1 w2 b s m) : Try.RC own w w2 b s m := by
  obtain ⟨own2, h1, h2⟩ := g.ex
  have hs := hw.size
  refine ⟨⟨own2, h1, fun k e => ?_⟩, hw.step ho g.wo⟩
  rcases h2 k e with e1 | e1
  · exact ho k e1
  · exact .inr (by omega)
/-- The whole block is laid anew, its row stays. -/
theorem Try.Rq.set {w w' : World} {own : Nat → Prop} {b m : Nat} {s : Qs ByteArray} {v : Value} {g : Option Nat} {L : List ByteArray} {gone' : Nat} (h : Try.Rq w own b s m) (hr : Row 9 w v g (L.map Value.string)) (hg : g ≠ some b) (ho : ∀ k, g = some k → own k) (s' : Qs ByteArray) (hd : L.drop gone' = s'.l) (hgl : gone' ≤ L.length) (hL : L.length ≤ m) (hin : s'.In)
    (hb : w'.heap[b]? = some (.cells #[.int .i64 s'.size, .int .i64 s'.base, .int .i64 s'.most, v, .int .i64 (gone' : Nat), .int .i64 s'.f, .int .i64 s'.u, .int .i64 s'.d] 58 (0, 0))) (hk : ∀ k, k ≠ b → w'.heap[k]? = w.heap[k]?) (hz : w'.heap.size = w.heap.size) (hwo : Wo own w w') : Try.RC own w w' b s' m := by
  refine ⟨⟨own, ⟨⟨v, g, L, gone', hb, ?_, hg, ho, hd, hgl, hL⟩, h.ox, fun k e => by rw [hz]; exact h.lt k e, hin⟩, fun _ e => .inl e⟩, hwo⟩
  exact hr.keep fun k e => hk k fun e1 => hg (by rw [e, e1])
set_option maxHeartbeats 1000000 in
theorem Try.rwaits {w : World} {own : Nat → Prop} {b m : Nat} {s : Qs ByteArray} (h : Try.Rq w own b s m) (hm : m ≤ 100000) :
    Calls Try.prog 26 #[.pointer (some ⟨b, 0, none⟩)] w fun e w' => e = .returned (.int .i64 s.l.length) ∧ ∃ n, w' = w.drewN n := by
  obtain ⟨v, g, L, gone, hb, hr, hg, ho, hd, hgl, hL⟩ := h.ex
  obtain ⟨a, cap, rfl⟩ := hr.form
  rw [List.length_map] at hb
  have c3 := cell_of_row w b 3 _ _ _ hb
  have c4 := cell_of_row w b 4 _ _ _ hb
  have e : (s.l.length : Int) = (L.length : Int) - gone := by rw [← hd, List.length_drop]; omega
  rw [e]
  have q1 : (gone : Int) ≤ (L.length : Int) := by omega
  have q2 : (L.length : Int) ≤ 100000 := by omega
  clear hb hr hg ho h hd hgl hL e hm
  generalize L.length = n at *
  go_enter Try.func26, Try.ntmps26
  go_wp2
  go_region
  go_wp2
  go_ret
  exact ⟨rfl, _, rfl⟩
set_option maxHeartbeats 1000000 in
theorem Try.rmore (n : Int) (h1 : 0 ≤ n) (h2 : n ≤ 1000000000) (w : World) : Calls Try.prog 27 #[.int .i64 n] w fun e w' => e = .returned (.int .i64 (one n)) ∧ w' = w := by
  by_cases h : 1000000000 ≤ n
  · have e : one n = n := by unfold one; omega
    rw [e]
    clear e
    go_enter Try.func27, Try.ntmps27
    go_wp2
    go_ret
    exact ⟨rfl, rfl⟩
  · have e : one n = n + 1 := by unfold one; omega
    rw [e]
    clear e
    go_enter Try.func27, Try.ntmps27
    go_wp2
    go_ret
    exact ⟨rfl, rfl⟩
set_option maxHeartbeats 1000000 in
theorem Try.rstate {w : World} {own : Nat → Prop} {b m : Nat} {s : Qs ByteArray} (h : Try.Rq w own b s m) (hm : m ≤ 100000) :
    Calls Try.prog 18 #[.pointer (some ⟨b, 0, none⟩)] w fun e w' => e = .returned (.tuple #[.int .i64 s.l.length, .int .i64 s.f, .int .i64 s.u, .int .i64 s.d]) ∧ Below w.heap.size w w' := by
  have hwt := fun n => Try.rwaits (h.keep (w' := w.drewN n) (fun _ _ => rfl) (Nat.le_refl _)) hm
  obtain ⟨v, g, L, gone, hb, hr, hg, ho, hd, hgl, hL⟩ := h.ex
  have c5 := cell_of_row w b 5 _ _ _ hb
  have c6 := cell_of_row w b 6 _ _ _ hb
  have c7 := cell_of_row w b 7 _ _ _ hb
  clear hb hr hg ho h hd hgl hL
  go_enter Try.func18, Try.ntmps18
  go_wp2
  go_quiet ((go_at_call 26; exact Calls.quiet_of (hwt _)))
  go_wp2
  (try simp only [Exit.inBlock, Exit.then])
  refine bodyPost_ret (Qu.results4 rfl _ _ _) rfl ?_
  exact ⟨rfl, belowN (Below.refl _ w) _⟩
end Go.Proofs
