/-
  Append.
-/
import Derived.Test.YtbnokhaimcpggaaEl
import Derived.Deep.DeepCutAuto
namespace Go.Proofs
open Go.RowKit Go.Dk
set_option maxRecDepth 20000 in
set_option maxHeartbeats 2000000 in
/-- Append that refuses. -/
theorem Try.append_no {w : World} {own : Nat → Prop} {y x side gen e f : Nat} {s : DS} (h : Try.Dsk w own x s) (hn : 2 ≤ s.n) (he : e ≤ 64 * half s.n) (hj : Try.Jn w y x side gen e f) (ad : Option Addr) (L cap : Nat) (hL : L < 1000000000000000) (c : Int)
    (hcs : (s.falls ≠ f ∧ c = 41) ∨ (s.falls = f ∧ (L = 0 ∨ 6000 < L) ∧ c = 52) ∨ (s.falls = f ∧ 0 < L ∧ L ≤ 6000 ∧ Dk.roomZ s.n e < L ∧ c = 51)) :
    Calls Try.prog 17 #[.pointer (some ⟨y, 0, none⟩), .slice ad L cap] w fun r w' => r = .returned (.int .i64 c) ∧ Below w.heap.size w w' := by
  have hbr : ∀ W, Below w.heap.size w W → Calls Try.prog 54 #[.pointer (some ⟨y, 0, none⟩)] W _ := fun W hW => Try.broken_any (h.below hW) (hj.below hW)
  have hrm : ∀ W, Below w.heap.size w W → Calls Try.prog 18 #[.pointer (some ⟨y, 0, none⟩)] W _ := fun W hW => Try.room_any (h.below hW) hn he (hj.below hW)
  have hb0 := Below.refl w.heap.size w
  have hbr0 := hbr w hb0
  clear h hj
  rcases hcs with ⟨hf, rfl⟩ | ⟨hf, hl, rfl⟩ | ⟨hf, h0, h6, hr, rfl⟩
  · rw [show decide (s.falls = f) = false by simpa using hf] at hbr0
    go_enter Try.func17, Try.ntmps17
    go_wp2_with (go_at_call 54; refine hbr0.mono ?_; clear hbr0; rintro r w2 ⟨rfl, h2⟩)
    go_ret
    exact ⟨rfl, h2⟩
  · rw [show decide (s.falls = f) = true by simpa using hf] at hbr0
    clear hrm
    rcases hl with rfl | hl
    · go_enter Try.func17, Try.ntmps17
      go_wp2_with (go_at_call 54; refine hbr0.mono ?_; clear hbr0; rintro r w2 ⟨rfl, h2⟩)
      go_ret
      exact ⟨rfl, h2⟩
    · have q1 : (6000 : Int) < (L : Int) := by omega
      have q2 : ((L : Int) == 0) = false := by simp; omega
      go_enter Try.func17, Try.ntmps17
      go_wp2_with (go_at_call 54; refine hbr0.mono ?_; clear hbr0; rintro r w2 ⟨rfl, h2⟩)
      go_ret
      exact ⟨rfl, h2⟩
  · rw [show decide (s.falls = f) = true by simpa using hf] at hbr0
    have q1 : ¬ (6000 : Int) < (L : Int) := by omega
    have q2 : ((L : Int) == 0) = false := by simp; omega
    rw [if_neg (by simp [hf])] at hrm
    generalize Dk.roomZ s.n e = z at *
    go_enter Try.func17, Try.ntmps17
    go_wp2_with (first
      | (go_at_call 54; refine hbr0.mono ?_; clear hbr0; rintro r w2 ⟨rfl, h2⟩; have hrm2 := hrm w2 h2)
      | (go_at_call 18; refine hrm2.mono ?_; clear hrm2; rintro r w3 ⟨rfl, h3⟩)
      | fail)
    go_ret
    exact ⟨rfl, h2.trans (h3.mono h2.size)⟩
end Go.Proofs
