/-
  step, whole.
-/
import Derived.Test.YtmbhadloedjfeaaRi
import Derived.Test.YtmbhadloedjfeaaRhHead
import Derived.Test.YtmbhadloedjfeaaRhDone
import Derived.Test.YtmbhadloedjfeaaRhFailed
import Derived.Test.YtmbhadloedjfeaaRhState
import Derived.Test.YtmbhadloedjfeaaRhSet
namespace Go.Proofs
open Go.RowKit Go.Wi Go.Qu
set_option maxHeartbeats 4000000 in
set_option maxRecDepth 20000 in
theorem Try.stepAll {w : World} {own : Nat → Prop} {p m : Nat} {s : Qs ByteArray} (h : Try.Pr w own p s m) (hm : m ≤ 100000) (h0 a0 b0 c0 : Int) (t : ByteArray) :
    Calls Try.prog 6 #[.pointer (some ⟨p, 0, none⟩), .agg (Qu.opC 6 h0 a0 b0 c0 t)] w fun e w' => e = .returned (.bool true) ∧ Try.PC own w w' p (m + 1) := by
  have hb0 : Below w.heap.size w (w.alloc (.cells (Qu.opC 6 h0 a0 b0 c0 t) 30)) := (Below.refl _ w).alloc (Nat.le_refl _) _
  have h2 := h.keep (fun k e => hb0.block k (h.lt k e)) hb0.size
  obtain ⟨a, b, o1, o2, hp⟩ := h2.ex
  have hA := (callsIn_wide (n := 5)).1 (Try.all_in 5 (Nat.le_refl _) hp hm a0)
  have HP : Hid _ := h.mono (Nat.le_succ m)
  have HB : Hid _ := hb0
  clear hp h2 h hb0
  go_enter Try.func6, Try.ntmps6
  go_wp2_with (first
    | (go_at_call 19; refine hA.mono ?_; clear hA; rintro z w1 ⟨rfl, hb1⟩; have HB1 : Hid _ := hb1; clear hb1)
    | fail)
  go_ret
  exact ⟨rfl, Try.PC.ofBelow HP.out (HB.out.trans (HB1.out.mono HB.out.size))⟩
set_option maxHeartbeats 4000000 in
set_option maxRecDepth 20000 in
theorem Try.stepNo {w : World} {own : Nat → Prop} {p m : Nat} {s : Qs ByteArray} (h : Try.Pr w own p s m) (k h0 a0 b0 c0 : Int) (t : ByteArray) (k1 : (k == 1) = false) (k2 : (k == 2) = false) (k3 : (k == 3) = false) (k4 : (k == 4) = false) (k5 : (k == 5) = false) (k6 : (k == 6) = false) (k7 : (k == 7) = false) :
    Calls Try.prog 6 #[.pointer (some ⟨p, 0, none⟩), .agg (Qu.opC k h0 a0 b0 c0 t)] w fun e w' => e = .returned (.bool true) ∧ Try.PC own w w' p (m + 1) := by
  have hb0 : Below w.heap.size w (w.alloc (.cells (Qu.opC k h0 a0 b0 c0 t) 30)) := (Below.refl _ w).alloc (Nat.le_refl _) _
  have HP : Hid _ := h.mono (Nat.le_succ m)
  have HB : Hid _ := hb0
  clear h hb0
  go_enter Try.func6, Try.ntmps6
  go_wp2
  go_ret
  exact ⟨rfl, Try.PC.ofBelow HP.out HB.out⟩
theorem Try.step_any {w : World} {own : Nat → Prop} {p m : Nat} {s : Qs ByteArray} (h : Try.Pr w own p s m) (hm : m ≤ 100000) (k h0 a0 b0 c0 : Int) (t : ByteArray) :
    Calls Try.prog 6 #[.pointer (some ⟨p, 0, none⟩), .agg (Qu.opC k h0 a0 b0 c0 t)] w fun e w' => e = .returned (.bool true) ∧ Try.PC own w w' p (m + 1) := by
  by_cases k1 : k = 1
  · subst k1; exact Try.stepPut h hm h0 a0 b0 c0 t
  by_cases k2 : k = 2
  · subst k2; exact Try.stepHead h hm h0 a0 b0 c0 t
  by_cases k3 : k = 3
  · subst k3; exact Try.stepDone h hm h0 a0 b0 c0 t
  by_cases k4 : k = 4
  · subst k4; exact Try.stepFailed h hm h0 a0 b0 c0 t
  by_cases k5 : k = 5
  · subst k5; exact Try.stepState h hm h0 a0 b0 c0 t
  by_cases k6 : k = 6
  · subst k6; exact Try.stepAll h hm h0 a0 b0 c0 t
  by_cases k7 : k = 7
  · subst k7; exact Try.stepSet h hm h0 a0 b0 c0 t
  exact Try.stepNo h k h0 a0 b0 c0 t (beq_false_of_ne k1) (beq_false_of_ne k2) (beq_false_of_ne k3) (beq_false_of_ne k4) (beq_false_of_ne k5) (beq_false_of_ne k6) (beq_false_of_ne k7)
end Go.Proofs
