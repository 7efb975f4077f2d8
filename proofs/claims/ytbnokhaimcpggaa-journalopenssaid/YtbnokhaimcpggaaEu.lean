/-
  opened.
-/
import Derived.Test.YtbnokhaimcpggaaEt
namespace Go.Proofs
open Go.RowKit Go.Dk
set_option maxRecDepth 20000 in
set_option maxHeartbeats 1000000 in
theorem Try.opened_any {w : World} {own : Nat → Prop} {x : Nat} {s : DS} (h : Try.Dsk w own x s) (H : Hd) (hz : H.size < 4294967296) :
    Calls Try.prog 47 #[.pointer (some ⟨x, 0, none⟩), Dk.hdV H] w fun r w' => ∃ y, r = .returned (.pointer (some ⟨y, 0, none⟩)) ∧ w.heap.size ≤ y ∧ Try.Jn w' y x H.side H.gen H.size s.falls ∧ Below w.heap.size w w' := by
  have hfl : ∀ W, Below w.heap.size w W → Calls Try.prog 30 #[.pointer (some ⟨x, 0, none⟩)] W fun r w' => r = .returned (.int .i64 s.falls) ∧ w' = W := fun W hW => by
    obtain ⟨l, t, V, hm, hf⟩ := (h.below hW).ex
    exact Try.falls_any hm
  have hb0 := Dk.belowA w (Dk.hdO H 91)
  have hr0 := heap_alloc_new w (Dk.hdO H 91)
  obtain ⟨c0, c1, c2, c3⟩ := Try.head_cells hr0
  have u1 : IntKind.i64.wrap (H.size : Int) = (H.size : Int) := by rw [IntKind.wrap_i64]; omega
  clear h
  unfold Dk.hdV
  unfold Dk.hdO at hb0 hr0 c0 c1 c2 c3
  go_enter Try.func47, Try.ntmps47
  go_upto_region 1 with (fail)
  generalize hW1 : w.alloc (.cells #[.int .i64 H.side, .int .u32 H.gen, .int .u32 H.size, .int .u32 H.sum] 91) = W1 at *
  go_region_held3 (fun W => W.cell? ⟨w.heap.size, 0, none⟩ = some (.int .i64 H.side) ∧ W.cell? ⟨w.heap.size, 1, none⟩ = some (.int .u32 H.gen) ∧ W.cell? ⟨w.heap.size, 2, none⟩ = some (.int .u32 H.size)) (first | exact ⟨c0, c1, c2⟩ | (have hlt : w.heap.size < W1.heap.size := Dk.block_lt hr0; exact ⟨Dk.cellB (((Below.refl W1.heap.size W1).drew).alloc (Nat.le_refl _) _) hlt c0, Dk.cellB (((Below.refl W1.heap.size W1).drew).alloc (Nat.le_refl _) _) hlt c1, Dk.cellB (((Below.refl W1.heap.size W1).drew).alloc (Nat.le_refl _) _) hlt c2⟩)) (first
    | (go_at_call 30; refine (hfl _ hb0.drew).mono ?_; clear hfl; rintro r w4 ⟨rfl, rfl⟩))
  all_goals
    go_wp2
    go_ret
    exact ⟨W1.heap.size, rfl, hb0.size, heap_alloc_new W1 _, (hb0.trans ((Dk.belowA W1 _).mono hb0.size)).drew⟩
end Go.Proofs
