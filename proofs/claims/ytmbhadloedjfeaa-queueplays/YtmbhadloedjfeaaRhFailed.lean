/-
  step: Failed (written by genstep.py).
-/
import Derived.Test.YtmbhadloedjfeaaRh
namespace Go.Proofs
open Go.RowKit Go.Wi Go.Qu
set_option maxHeartbeats 4000000 in
set_option maxRecDepth 20000 in
theorem Try.stepFailed {w : World} {own : Nat → Prop} {p m : Nat} {s : Qs ByteArray} (h : Try.Pr w own p s m) (hm : m ≤ 100000) (h0 a0 b0 c0 : Int) (t : ByteArray) :
    Calls Try.prog 6 #[.pointer (some ⟨p, 0, none⟩), .agg (Qu.opC 4 h0 a0 b0 c0 t)] w fun e w' => e = .returned (.bool true) ∧ Try.PC own w w' p (m + 1) := by
  obtain ⟨a, b, o1, o2, hp⟩ := h.ex
  have hpl := block_lt hp.bl
  have p0 := cell_of_row w p 0 _ _ _ hp.bl
  have p1 := cell_of_row w p 1 _ _ _ hp.bl
  obtain ⟨y, s', hA, hR⟩ : ∃ (y : Int) (s' : Qs ByteArray), (∀ W, Below w.heap.size w W → Calls Try.prog 9 #[.pointer (some ⟨a, 0, none⟩), .int .i64 a0] W fun e w' => e = .returned (.int .i64 y) ∧ Try.QCS o1 W w' a s') ∧ ∀ w1, Try.Rq w1 o2 b s m → Calls Try.prog 17 #[.pointer (some ⟨b, 0, none⟩), .int .i64 a0] w1 fun e w' => e = .returned (.int .i64 y) ∧ Try.RC o2 w1 w' b s' (m + 1) := by
    cases hl : s.l with
    | nil => exact ⟨2, s, fun W hW => (Try.failedNoS (hp.qa.below hW) hl a0).mono fun e w' ⟨e1, e2⟩ => ⟨e1, Try.QCS.same (hp.qa.below hW) e2⟩, fun w1 hr => (Try.rfailedNo hr hm hl a0).mono fun e w' ⟨e1, e2⟩ => ⟨e1, Try.RC.up (Try.RC.ofBelow hr e2)⟩⟩
    | cons x r =>
      by_cases hn : 0 ≤ a0 ∧ a0 ≤ 1000000000
      · exact ⟨0, _, fun W hW => Try.failedYesS (hp.qa.below hW) hl a0 hn.1 hn.2, fun w1 hr => (Try.rfailedYes hr hm hl a0 hn.1 hn.2).mono fun e w' ⟨e1, e2⟩ => ⟨e1, Try.RC.up e2⟩⟩
      · exact ⟨1, s, fun W hW => (Try.failedBadS (hp.qa.below hW) hl a0 hn).mono fun e w' ⟨e1, e2⟩ => ⟨e1, Try.QCS.same (hp.qa.below hW) e2⟩, fun w1 hr => (Try.rfailedBad hr hm hl a0 hn).mono fun e w' ⟨e1, e2⟩ => ⟨e1, Try.RC.up (Try.RC.ofBelow hr e2)⟩⟩
  have hb0 : Below w.heap.size w (w.alloc (.cells (Qu.opC 4 h0 a0 b0 c0 t) 30)).drew := ((Below.refl _ w).alloc (Nat.le_refl _) _).drew
  have hb1 : Below (w.heap.size + 1) (w.alloc (.cells (Qu.opC 4 h0 a0 b0 c0 t) 30)) (w.alloc (.cells (Qu.opC 4 h0 a0 b0 c0 t) 30)).drew := (Below.refl _ _).drew
  have KEY : Hid (∀ w1, Try.QCS o1 (w.alloc (.cells (Qu.opC 4 h0 a0 b0 c0 t) 30)).drew w1 a s' → w1.cell? ⟨p, 1, none⟩ = some (.pointer (some ⟨b, 0, none⟩)) ∧ w1.cell? ⟨w.heap.size, 2, none⟩ = some (.int .i64 a0) ∧ Calls Try.prog 17 #[.pointer (some ⟨b, 0, none⟩), .int .i64 a0] w1.drew fun e w' => e = .returned (.int .i64 y) ∧ Try.PC own w w' p (m + 1)) := fun w1 hQ => by
    obtain ⟨a1, a2, a3, a4⟩ := hp.first hb0 hQ
    refine ⟨a1, hp.box hb0 hQ hb1 2 rfl, ?_⟩
    exact (hR w1.drew (a2.keep (fun _ _ => rfl) (Nat.le_refl _))).mono fun e w' ⟨e1, e2⟩ => ⟨e1, hp.second hb0 hQ ((Below.refl _ w1).drew) e2⟩
  have hA0 := hA _ hb0
  clear hA hR hp h hb0 hb1
  go_enter Try.func6, Try.ntmps6
  go_wp2
  go_region_with (first | (go_at_call 9; refine hA0.mono ?_; rintro z w1 ⟨rfl, hQ⟩; obtain ⟨d1, dS2, hB⟩ := KEY.out _ hQ; clear hQ) | fail)
  all_goals
    clear hA0 KEY
    go_wp2
    go_region_with (first | (go_at_call 17; refine hB.mono ?_; rintro z w2 ⟨rfl, hK⟩; have HK : Hid _ := hK; clear hK) | fail)
    all_goals
      clear hB
      go_wp2
      go_ret
      exact ⟨by simp, HK.out⟩
end Go.Proofs
