/-
  An area: size, block, other, read, flag.
-/
import Derived.Test.YtbnokhaimcpggaaEc
namespace Go.Proofs
open Go.RowKit Go.Dk
theorem Dk.half_le {n : Nat} (h : n ≤ 4096) : half n ≤ 2047 := by unfold half; omega
theorem Dk.belowA (w : World) (o : Obj) : Below w.heap.size w (w.alloc o) := (Below.refl w.heap.size w).alloc (Nat.le_refl _) o
set_option maxHeartbeats 1000000 in
theorem Try.asize_any {w : World} {own : Nat → Prop} {x : Nat} {s : DS} (h : Try.Dsk w own x s) (hn : 2 ≤ s.n) (side : Nat) :
    Calls Try.prog 52 #[Dk.arV x side] w fun e w' => e = .returned (.int .i64 (64 * half s.n : Nat)) ∧ Below w.heap.size w w' := by
  have hl := Dk.half_le h.len.2.2
  have h1 : ∀ o, Calls Try.prog 78 #[Dk.arV x side] (w.alloc o) _ := fun o => Try.ablocks_any (h.below (Dk.belowA w o)) hn side
  have hq : ((half s.n : Nat) : Int) * 64 = ((64 * half s.n : Nat) : Int) := by omega
  clear h
  unfold Dk.arV at h1 ⊢
  generalize half s.n = H at *
  go_enter Try.func52, Try.ntmps52
  go_wp2_with (go_at_call 78; refine (h1 _).mono ?_; clear h1; rintro e w2 ⟨rfl, h2⟩)
  go_ret
  exact ⟨rfl, (Dk.belowA w _).trans (h2.mono (Dk.belowA w _).size)⟩
theorem Dk.cellB {w w' : World} (h : Below w.heap.size w w') {b o : Nat} {v : Value} (hb : b < w.heap.size) (hc : w.cell? ⟨b, o, none⟩ = some v) : w'.cell? ⟨b, o, none⟩ = some v := (h.cell (p := ⟨b, o, none⟩) hb).trans hc
set_option maxHeartbeats 1000000 in
theorem Try.ablock_any {w : World} {own : Nat → Prop} {x : Nat} {s : DS} (h : Try.Dsk w own x s) (hn : 2 ≤ s.n) (side : Nat) (hs : side ≤ 1) (p : Nat) (hp : p < 1000000000) :
    Calls Try.prog 77 #[Dk.arV x side, .int .i64 p] w fun e w' => e = .returned (.int .i64 (ablk s.n side p)) ∧ Below w.heap.size w w' := by
  have hl := Dk.half_le h.len.2.2
  have h1 : ∀ W, Below w.heap.size w W → Calls Try.prog 78 #[Dk.arV x side] W _ := fun W hW => Try.ablocks_any (h.below hW) hn side
  clear h
  have hq1 : (p : Int) / 64 = ((p / 64 : Nat) : Int) := by omega
  unfold Dk.arV at h1 ⊢
  have hA : (ablk s.n side p : Int) = 2 + (side : Int) * (half s.n : Int) + ((p / 64 : Nat) : Int) := by unfold ablk; push_cast; rfl
  rw [hA]
  clear hA
  generalize half s.n = H at *
  generalize hP : p / 64 = P at *
  have hP2 : P < 1000000000 := by omega
  have hsw : side = 0 ∨ side = 1 := by omega
  have hmul : 0 ≤ (side : Int) * (H : Int) ∧ (side : Int) * (H : Int) ≤ 2047 := by rcases hsw with rfl | rfl <;> simp <;> omega
  generalize hM : (side : Int) * (H : Int) = M at *
  clear hP hsw
  have wM : IntKind.i64.wrap M = M := by rw [IntKind.wrap_i64]; omega
  have wP : IntKind.i64.wrap (P : Int) = P := by rw [IntKind.wrap_i64]; omega
  have w2M : IntKind.i64.wrap (2 + M) = 2 + M := by rw [IntKind.wrap_i64]; omega
  have wA : IntKind.i64.wrap (2 + M + P) = 2 + M + P := by rw [IntKind.wrap_i64]; omega
  have hb0 := Dk.belowA w (.cells #[.pointer (some ⟨x, 0, none⟩), .int .i64 side] 98)
  have c0 : (w.alloc (.cells #[.pointer (some ⟨x, 0, none⟩), .int .i64 side] 98)).cell? ⟨w.heap.size, 0, none⟩ = some (.pointer (some ⟨x, 0, none⟩)) := by rw [cell_of_row _ _ _ _ _ _ (heap_alloc_new w _)]; rfl
  have c1 : (w.alloc (.cells #[.pointer (some ⟨x, 0, none⟩), .int .i64 side] 98)).cell? ⟨w.heap.size, 1, none⟩ = some (.int .i64 side) := by rw [cell_of_row _ _ _ _ _ _ (heap_alloc_new w _)]; rfl
  go_enter Try.func77, Try.ntmps77
  go_wp2
  go_region_with (first
    | (go_at_call 78; refine (h1 _ (by first | exact hb0 | exact hb0.drew)).mono ?_; rintro e w2 ⟨rfl, h2⟩; have d1 := Dk.cellB (w := (w.alloc _).drew) h2 (by simp) c1)
    | fail)
  all_goals
    clear h1 c0 c1
    have hbw : Below w.heap.size w w2 := hb0.drew.trans (h2.mono (by simp))
    clear hb0 h2
    go_wp2
    go_ret
    exact ⟨rfl, hbw⟩
set_option maxHeartbeats 1000000 in
theorem Try.other_any (w : World) (x side : Nat) (hs : side ≤ 1) :
    Calls Try.prog 73 #[Dk.arV x side] w fun e w' => e = .returned (Dk.arV x (1 - side)) ∧ Below w.heap.size w w' := by
  unfold Dk.arV
  have hq : (1 : Int) - (side : Int) = ((1 - side : Nat) : Int) := by omega
  go_enter Try.func73, Try.ntmps73
  go_wp2
  refine bodyPost_ret (v := .agg #[.pointer (some ⟨x, 0, none⟩), .int .i64 (1 - side : Nat)]) (by simp [results, Try.results73, go_sem]) rfl ?_
  exact ⟨rfl, (Dk.belowA w _).trans ((Dk.belowA _ _).mono (Dk.belowA w _).size)⟩
end Go.Proofs
