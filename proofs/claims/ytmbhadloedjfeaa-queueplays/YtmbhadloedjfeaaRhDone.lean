/-
  step: Done (written by genstep.py).
-/
import Derived.Test.YtmbhadloedjfeaaRh
namespace Go.Proofs
open Go.RowKit Go.Wi Go.Qu
set_option maxHeartbeats 4000000 in
set_option maxRecDepth 20000 in
theorem Try.stepDone {w : World} {own : Nat → Prop} {p m : Nat} {s : Qs ByteArray} (h : Try.Pr w own p s m) (hm : m ≤ 100000) (h0 a0 b0 c0 : Int) (t : ByteArray) :
    Calls Try.prog 6 #[.pointer (some ⟨p, 0, none⟩), .agg (Qu.opC 3 h0 a0 b0 c0 t)] w fun e w' => e = .returned (.bool true) ∧ Try.PC own w w' p (m + 1) := by
  obtain ⟨a, b, o1, o2, hp⟩ := h.ex
  have hpl := block_lt hp.bl
  have p0 := cell_of_row w p 0 _ _ _ hp.bl
  have p1 := cell_of_row w p 1 _ _ _ hp.bl
  obtain ⟨y, s', hA, hR⟩ : ∃ (y : Int) (s' : Qs ByteArray), (∀ W, Below w.heap.size w W → Calls Try.prog 15 #[.pointer (some ⟨a, 0, none⟩)] W fun e w' => e = .returned (.int .i64 y) ∧ Try.QCS o1 W w' a s') ∧ ∀ w1, Try.Rq w1 o2 b s m → Calls Try.prog 16 #[.pointer (some ⟨b, 0, none⟩)] w1 fun e w' => e = .returned (.int .i64 y) ∧ Try.RC o2 w1 w' b s' (m + 1) := by
    cases hl : s.l with
    | nil => exact ⟨2, s, fun W hW => (Try.doneNoS (hp.qa.below hW) hl).mono fun e w' ⟨e1, e2⟩ => ⟨e1, Try.QCS.same (hp.qa.below hW) e2⟩, fun w1 hr => (Try.rdoneNo hr hm hl).mono fun e w' ⟨e1, e2⟩ => ⟨e1, Try.RC.up (Try.RC.ofBelow hr e2)⟩⟩
    | cons x r => exact ⟨0, _, fun W hW => Try.doneYesS (hp.qa.below hW) hl, fun w1 hr => (Try.rdoneYes hr hm hl).mono fun e w' ⟨e1, e2⟩ => ⟨e1, Try.RC.up e2⟩⟩
  have hb0 : Below w.heap.size w (w.alloc (.cells (Qu.opC 3 h0 a0 b0 c0 t) 30)) := ((Below.refl _ w).alloc (Nat.le_refl _) _)
  have hb1 : Below (w.heap.size + 1) (w.alloc (.cells (Qu.opC 3 h0 a0 b0 c0 t) 30)) (w.alloc (.cells (Qu.opC 3 h0 a0 b0 c0 t) 30)) := (Below.refl _ _)
  have KEY : Hid (∀ w1, Try.QCS o1 (w.alloc (.cells (Qu.opC 3 h0 a0 b0 c0 t) 30)) w1 a s' → w1.cell? ⟨p, 1, none⟩ = some (.pointer (some ⟨b, 0, none⟩)) ∧ Calls Try.prog 16 #[.pointer (some ⟨b, 0, none⟩)] w1 fun e w' => e = .returned (.int .i64 y) ∧ Try.PC own w w' p (m + 1)) := fun w1 hQ => by
    obtain ⟨a1, a2, a3, a4⟩ := hp.first hb0 hQ
    refine ⟨a1, ?_⟩
    exact (hR w1 (a2.keep (fun _ _ => rfl) (Nat.le_refl _))).mono fun e w' ⟨e1, e2⟩ => ⟨e1, hp.second hb0 hQ ((Below.refl _ w1)) e2⟩
  have hA0 := hA _ hb0
  clear hA hR hp h hb0 hb1
  go_enter Try.func6, Try.ntmps6
  go_wp2_with (first
    | (go_at_call 15; refine hA0.mono ?_; clear hA0; rintro z w1 ⟨rfl, hQ⟩; obtain ⟨d1, hB⟩ := KEY.out _ hQ; clear hQ KEY)
    | (go_at_call 16; refine hB.mono ?_; clear hB; rintro z w2 ⟨rfl, hK⟩; have HK : Hid _ := hK; clear hK)
    | fail)
  go_ret
  exact ⟨by simp, HK.out⟩
end Go.Proofs
