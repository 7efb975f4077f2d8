/-
  'one' that counts its calls (a closure: its variable's place comes behind the arguments).
-/
import Derived.Test.YtdefebinnmimgaaVx
namespace Go.Proofs
open Go.RowKit Go.Wi
/-- What a call leaves that turns a reader x and a counter c. -/
structure Try.Ctd (own : Nat → Prop) (w w' : World) (x c : Nat) (s : Rs) (n : Int) : Prop where
  ex : ∃ own', Try.Rd w' own' x s ∧ (∀ k, own' k → own k ∨ w.heap.size ≤ k)
  cc : w'.heap[c]? = some (.cells #[.int .i64 n] 3 (0, 0))
  wo : Wo (fun k => k = x ∨ k = c) w w'
theorem Try.Ctd.of {own : Nat → Prop} {w w1 w2 : World} {x c : Nat} {s s2 : Rs} {n : Int} (h : Try.Rd w own x s) (h1 : w1.heap[c]? = some (.cells #[.int .i64 n] 3 (0, 0))) (hs : w1.heap.size = w.heap.size) (hw : Wo (fun k => k = x ∨ k = c) w w1) (hco : ¬ own c) (g : Try.RChg own w1 w2 x s2) : Try.Ctd own w w2 x c s2 n := by
  obtain ⟨o2, g1, g2⟩ := g.ex
  refine ⟨⟨o2, g1, fun k e => (g2 k e).imp id fun e1 => by omega⟩, (g.wo.block c (block_lt h1) (fun e => hco (by rw [e]; exact h.ox))).trans h1, hw.trans (g.wo.mono fun k e => .inl e)⟩
set_option maxHeartbeats 1000000 in
theorem Try.one2 {w : World} {own : Nat → Prop} {x c : Nat} {s : Rs} {n : Int} (h : Try.Rd w own x s) (hc : w.heap[c]? = some (.cells #[.int .i64 n] 3 (0, 0))) (hco : ¬ own c) (m : Int) (hn : wrap64 (n + 1) = m) :
    Calls Try.prog 32 #[.pointer (some ⟨x, 0, .none⟩), .pointer (some ⟨c, 0, .none⟩)] w fun e w' => e = .returned (.string ⟨s.text.1.toArray⟩) ∧ Try.Ctd own w w' x c s.text.2 m := by
  have c0 : w.cell? ⟨c, 0, .none⟩ = some (.int .i64 n) := cell_of_row w c 0 _ _ _ hc
  have f0 := frozen_of_row w c 0 _ _ hc
  have hc1 := heap_setCell_same w c 0 #[.int .i64 n] 3 (.int .i64 m) hc
  have hs1 : (w.setCell ⟨c, 0, none⟩ (.int .i64 m)).heap.size = w.heap.size := by simp
  have hw1 : Wo (fun k => k = x ∨ k = c) w (w.setCell ⟨c, 0, none⟩ (.int .i64 m)) := (Wo.refl _ w).setCell c 0 _ (.inl (.inr rfl))
  have hR : Try.Rd (w.setCell ⟨c, 0, none⟩ (.int .i64 m)) own x s := h.keep (fun k e => heap_setCell_other _ _ _ _ (fun e1 => hco (by rw [← show k = c from e1]; exact e))) (by rw [hs1]; exact Nat.le_refl _)
  have h5 := Try.rText_any hR
  have HC : Hid (∀ W, Try.RChg own (w.setCell ⟨c, 0, none⟩ (.int .i64 m)) W x s.text.2 → Try.Ctd own w W x c s.text.2 m) := fun W g => Try.Ctd.of h hc1 hs1 hw1 hco g
  clear h hc hc1 hs1 hw1 hR hco
  go_enter Try.func32, Try.ntmps32
  go_wp2_with (first | (go_at_call 20; refine h5.mono ?_; clear h5; rintro e w2 ⟨rfl, h2⟩) | fail)
  go_ret
  exact ⟨rfl, HC.out _ h2⟩
end Go.Proofs
