/-
  step: Set.
-/
import Derived.Test.YtmbhadloedjfeaaRh
import Derived.Deep.RegionHeld3
namespace Go.Proofs
open Go.RowKit Go.Wi Go.Qu
set_option maxHeartbeats 4000000 in
set_option maxRecDepth 20000 in
theorem Try.stepSet {w : World} {own : Nat → Prop} {p m : Nat} {s : Qs ByteArray} (h : Try.Pr w own p s m) (_hm : m ≤ 100000) (h0 a0 b0 c0 : Int) (t : ByteArray) :
    Calls Try.prog 6 #[.pointer (some ⟨p, 0, none⟩), .agg (Qu.opC 7 h0 a0 b0 c0 t)] w fun e w' => e = .returned (.bool true) ∧ Try.PC own w w' p (m + 1) := by
  obtain ⟨a, b, o1, o2, hp⟩ := h.ex
  have hpl := block_lt hp.bl
  have p0 := cell_of_row w p 0 _ _ _ hp.bl
  have p1 := cell_of_row w p 1 _ _ _ hp.bl
  obtain ⟨y, s', hA, hR⟩ : ∃ (y : Int) (s' : Qs ByteArray), (∀ W, Below w.heap.size w W → Calls Try.prog 20 #[.pointer (some ⟨a, 0, none⟩), .int .i64 a0, .int .i64 b0, .int .i64 c0] W fun e w' => e = .returned (.int .i64 y) ∧ Try.QCS o1 W w' a s') ∧ ∀ w1, Try.Rq w1 o2 b s m → Calls Try.prog 21 #[.pointer (some ⟨b, 0, none⟩), .int .i64 a0, .int .i64 b0, .int .i64 c0] w1 fun e w' => e = .returned (.int .i64 y) ∧ Try.RC o2 w1 w' b s' (m + 1) := by
    by_cases hn : 0 ≤ a0 ∧ a0 ≤ 1000000000 ∧ 0 ≤ b0 ∧ b0 ≤ 2000000000 ∧ 0 ≤ c0 ∧ c0 ≤ 1000000000
    · exact ⟨0, _, fun W hW => Try.setYesS (hp.qa.below hW) a0 b0 c0 hn.1 hn.2.1 hn.2.2.1 hn.2.2.2.1 hn.2.2.2.2.1 hn.2.2.2.2.2, fun w1 hr => (Try.rsetYes hr a0 b0 c0 hn.1 hn.2.1 hn.2.2.1 hn.2.2.2.1 hn.2.2.2.2.1 hn.2.2.2.2.2).mono fun e w' ⟨e1, e2⟩ => ⟨e1, Try.RC.up e2⟩⟩
    · exact ⟨1, s, fun W hW => (Try.setNoS W a a0 b0 c0 hn).mono fun e w' ⟨e1, e2⟩ => ⟨e1, Try.QCS.same (hp.qa.below hW) e2⟩, fun w1 hr => (Try.rsetNo w1 b a0 b0 c0 hn).mono fun e w' ⟨e1, e2⟩ => ⟨e1, Try.RC.up (Try.RC.same hr e2)⟩⟩
  have hb0 : Below w.heap.size w (w.alloc (.cells (Qu.opC 7 h0 a0 b0 c0 t) 30)).drew := ((Below.refl _ w).alloc (Nat.le_refl _) _).drew
  have hb1 : Below (w.heap.size + 1) (w.alloc (.cells (Qu.opC 7 h0 a0 b0 c0 t) 30)) (w.alloc (.cells (Qu.opC 7 h0 a0 b0 c0 t) 30)).drew := (Below.refl _ _).drew
  have KEY : Hid (∀ w1, Try.QCS o1 (w.alloc (.cells (Qu.opC 7 h0 a0 b0 c0 t) 30)).drew w1 a s' → (w1.cell? ⟨p, 0, none⟩ = some (.pointer (some ⟨a, 0, none⟩)) ∧ w1.cell? ⟨w.heap.size, 2, none⟩ = some (.int .i64 a0) ∧ w1.cell? ⟨w.heap.size, 3, none⟩ = some (.int .i64 b0) ∧ w1.cell? ⟨w.heap.size, 4, none⟩ = some (.int .i64 c0)) ∧ (w1.cell? ⟨p, 1, none⟩ = some (.pointer (some ⟨b, 0, none⟩)) ∧ w1.cell? ⟨w.heap.size, 2, none⟩ = some (.int .i64 a0) ∧ w1.cell? ⟨w.heap.size, 3, none⟩ = some (.int .i64 b0) ∧ w1.cell? ⟨w.heap.size, 4, none⟩ = some (.int .i64 c0)) ∧ Calls Try.prog 21 #[.pointer (some ⟨b, 0, none⟩), .int .i64 a0, .int .i64 b0, .int .i64 c0] w1.drew fun e w' => e = .returned (.int .i64 y) ∧ Try.PC own w w' p (m + 1) ∧ w'.cell? ⟨p, 1, none⟩ = some (.pointer (some ⟨b, 0, none⟩)) ∧ w'.cell? ⟨w.heap.size, 2, none⟩ = some (.int .i64 a0) ∧ w'.cell? ⟨w.heap.size, 3, none⟩ = some (.int .i64 b0) ∧ w'.cell? ⟨w.heap.size, 4, none⟩ = some (.int .i64 c0)) := fun w1 hQ => by
    obtain ⟨a1, a2, a3, a4⟩ := hp.first hb0 hQ
    have hz0 : (w.alloc (.cells (Qu.opC 7 h0 a0 b0 c0 t) 30)).heap.size = w.heap.size + 1 := by simp
    have hz1 : (w.alloc (.cells (Qu.opC 7 h0 a0 b0 c0 t) 30)).heap.size ≤ w1.heap.size := hQ.wo.size
    have x2 := hp.box hb0 hQ hb1 2 rfl
    have x3 := hp.box hb0 hQ hb1 3 rfl
    have x4 := hp.box hb0 hQ hb1 4 rfl
    have q0 : w1.cell? ⟨p, 0, none⟩ = some (.pointer (some ⟨a, 0, none⟩)) := by
      have hbp : w1.heap[p]? = w.heap[p]? := (hQ.wo.block p (Nat.lt_of_lt_of_le hpl hb0.size) hp.n1).trans (hb0.block p hpl)
      rw [cell_of_row _ _ _ _ _ _ (hbp.trans hp.bl)]; rfl
    refine ⟨⟨q0, x2, x3, x4⟩, ⟨a1, x2, x3, x4⟩, ?_⟩
    refine (hR w1.drew (a2.keep (fun _ _ => rfl) (Nat.le_refl _))).mono fun e w' ⟨e1, e2⟩ => ⟨e1, hp.second hb0 hQ ((Below.refl _ w1).drew) e2, ?_⟩
    have kp : ∀ k j, k < w1.heap.size → ¬ o2 k → w'.cell? ⟨k, j, none⟩ = w1.cell? ⟨k, j, none⟩ := fun k j h1 h2 => World.cell?_of_block (a := ⟨k, j, none⟩) (e2.wo.block k h1 h2)
    have hx : ¬ o2 w.heap.size := fun e => by have := hp.rb.lt _ e; omega
    exact ⟨(kp p 1 (by omega) hp.n2).trans a1, (kp _ 2 (by omega) hx).trans x2, (kp _ 3 (by omega) hx).trans x3, (kp _ 4 (by omega) hx).trans x4⟩
  have s0 : (w.alloc (.cells (Qu.opC 7 h0 a0 b0 c0 t) 30)).cell? ⟨p, 0, none⟩ = some (.pointer (some ⟨a, 0, none⟩)) := (((Below.refl w.heap.size w).alloc (Nat.le_refl _) _).cell (p := ⟨p, 0, none⟩) hpl).trans p0
  have s2 : (w.alloc (.cells (Qu.opC 7 h0 a0 b0 c0 t) 30)).cell? ⟨w.heap.size, 2, none⟩ = some (.int .i64 a0) := by rw [World.cell?_alloc_new]; rfl
  have s3 : (w.alloc (.cells (Qu.opC 7 h0 a0 b0 c0 t) 30)).cell? ⟨w.heap.size, 3, none⟩ = some (.int .i64 b0) := by rw [World.cell?_alloc_new]; rfl
  have s4 : (w.alloc (.cells (Qu.opC 7 h0 a0 b0 c0 t) 30)).cell? ⟨w.heap.size, 4, none⟩ = some (.int .i64 c0) := by rw [World.cell?_alloc_new]; rfl
  have hA0 := hA _ hb0
  clear hA hR hp h hb0 hb1
  go_enter Try.func6, Try.ntmps6
  go_wp2
  go_region_held3 (fun W => W.cell? ⟨p, 0, none⟩ = some (.pointer (some ⟨a, 0, none⟩)) ∧ W.cell? ⟨w.heap.size, 2, none⟩ = some (.int .i64 a0) ∧ W.cell? ⟨w.heap.size, 3, none⟩ = some (.int .i64 b0) ∧ W.cell? ⟨w.heap.size, 4, none⟩ = some (.int .i64 c0)) (first | exact ⟨s0, s2, s3, s4⟩ | exact dA) (first
    | (go_at_call 20; refine hA0.mono ?_; clear hA0; rintro z w1 ⟨rfl, hQ⟩; obtain ⟨dA, dB, hB⟩ := KEY.out _ hQ; clear hQ KEY))
  all_goals
    obtain ⟨dB1, dB2, dB3, dB4⟩ := dB
    clear dA s0 s2 s3 s4
    go_wp2
    go_region_held3 (fun W => W.cell? ⟨p, 1, none⟩ = some (.pointer (some ⟨b, 0, none⟩)) ∧ W.cell? ⟨w.heap.size, 2, none⟩ = some (.int .i64 a0) ∧ W.cell? ⟨w.heap.size, 3, none⟩ = some (.int .i64 b0) ∧ W.cell? ⟨w.heap.size, 4, none⟩ = some (.int .i64 c0)) (first | exact ⟨dB1, dB2, dB3, dB4⟩ | exact dC) (first
      | (go_at_call 21; refine hB.mono ?_; clear hB; rintro z w2 ⟨rfl, hK, dC⟩; have HK : Hid _ := hK; clear hK))
    all_goals
      go_wp2
      go_ret
      exact ⟨by simp, HK.out⟩
end Go.Proofs
