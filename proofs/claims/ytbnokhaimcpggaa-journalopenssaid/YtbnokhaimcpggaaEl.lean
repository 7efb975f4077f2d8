/-
  A journal in memory: broken, Room.
-/
import Derived.Test.YtbnokhaimcpggaaEk
namespace Go.Proofs
open Go.RowKit Go.Dk
/-- A journal. -/
def Try.Jn (w : World) (y x side gen e f : Nat) : Prop := w.heap[y]? = some (.cells #[.pointer (some ⟨x, 0, none⟩), .int .i64 side, .int .u32 gen, .int .i64 e, .int .i64 f] 100 (0, 0))
theorem Try.Jn.c {w : World} {y x side gen e f : Nat} (h : Try.Jn w y x side gen e f) : w.cell? ⟨y, 0, none⟩ = some (.pointer (some ⟨x, 0, none⟩)) ∧ w.cell? ⟨y, 1, none⟩ = some (.int .i64 side) ∧ w.cell? ⟨y, 2, none⟩ = some (.int .u32 gen) ∧ w.cell? ⟨y, 3, none⟩ = some (.int .i64 e) ∧ w.cell? ⟨y, 4, none⟩ = some (.int .i64 f) := by
  refine ⟨?_, ?_, ?_, ?_, ?_⟩ <;> (rw [cell_of_row _ _ _ _ _ _ h]; rfl)
theorem Try.Jn.fr {w : World} {y x side gen e f : Nat} (h : Try.Jn w y x side gen e f) (j : Nat) : w.frozen? ⟨y, j, none⟩ = false := frozen_of_row _ _ _ _ _ h
theorem Try.Jn.below {w w' : World} {y x side gen e f : Nat} (h : Try.Jn w y x side gen e f) (hb : Below w.heap.size w w') : Try.Jn w' y x side gen e f := (hb.block y (Dk.block_lt h)).trans h
theorem Try.Jn.wo {own : Nat → Prop} {w w' : World} {y x side gen e f : Nat} (h : Try.Jn w y x side gen e f) (hw : Dk.Wo own w w') (hy : ¬ own y) : Try.Jn w' y x side gen e f := (hw.block y (Dk.block_lt h) hy).trans h
set_option maxRecDepth 20000 in
set_option maxHeartbeats 1000000 in
theorem Try.broken_any {w : World} {own : Nat → Prop} {y x side gen e f : Nat} {s : DS} (h : Try.Dsk w own x s) (hj : Try.Jn w y x side gen e f) :
    Calls Try.prog 54 #[.pointer (some ⟨y, 0, none⟩)] w fun r w' => r = .returned (.bool (!decide (s.falls = f))) ∧ Below w.heap.size w w' := by
  obtain ⟨l, t, V, hm, hf⟩ := h.ex
  have hfl := fun n => Try.falls_any (w := w.drewN n) (hm.keep fun k _ => rfl)
  obtain ⟨c0, c1, c2, c3, c4⟩ := hj.c
  have hbN := Dk.belowN w
  have hq : ((s.falls : Int) != (f : Int)) = !decide (s.falls = f) := by
    by_cases e : s.falls = f
    · simp [e]
    · simp [e]; omega
  clear h hm hj
  go_enter Try.func54, Try.ntmps54
  go_wp2
  go_quiet ((go_at_call 30; exact Calls.quiet_of_same (hfl _)))
  go_wp2
  go_ret
  exact ⟨rfl, hbN _⟩
/-- What Room tells. -/
def Dk.roomZ (n e : Nat) : Int := if (64 * half n : Nat) < (e : Int) + 8 then -1 else min (64 * half n - e - 7) 6000
set_option maxRecDepth 20000 in
set_option maxHeartbeats 1000000 in
theorem Try.room_any {w : World} {own : Nat → Prop} {y x side gen e f : Nat} {s : DS} (h : Try.Dsk w own x s) (hn : 2 ≤ s.n) (he : e ≤ 64 * half s.n) (hj : Try.Jn w y x side gen e f) :
    Calls Try.prog 18 #[.pointer (some ⟨y, 0, none⟩)] w fun r w' => r = .returned (.int .i64 (if s.falls ≠ f then -1 else Dk.roomZ s.n e)) ∧ Below w.heap.size w w' := by
  have hhl := Dk.half_le h.len.2.2
  have hsz : ∀ W, Below w.heap.size w W → Calls Try.prog 52 #[.agg #[.pointer (some ⟨x, 0, none⟩), .int .i64 side]] W _ := fun W hW => Try.asize_any (h.below hW) hn side
  have hbr : ∀ W, Below w.heap.size w W → Calls Try.prog 54 #[.pointer (some ⟨y, 0, none⟩)] W _ := fun W hW => Try.broken_any (h.below hW) (hj.below hW)
  obtain ⟨c0, c1, c2, c3, c4⟩ := hj.c
  have hyl := Dk.block_lt hj
  have hb0 := Below.refl w.heap.size w
  obtain ⟨S, hS⟩ : ∃ S, S = 64 * half s.n := ⟨_, rfl⟩
  have hR : Dk.roomZ s.n e = if (S : Int) < (e : Int) + 8 then -1 else min ((S : Int) - e - 7) 6000 := by
    unfold Dk.roomZ; rw [hS]; push_cast; rfl
  rw [hR]
  rw [← hS] at hsz he
  have hSl : S < 1000000 := by omega
  clear h hj hS hR hhl
  have qs : ((S : Int) - (e : Int) - 7) = (S : Int) - e - 7 := rfl
  generalize hRm : min ((S : Int) - (e : Int) - 7) 6000 = rm at *
  have w1 : IntKind.i64.wrap ((S : Int) - (e : Int)) = (S : Int) - e := by rw [IntKind.wrap_i64]; omega
  have w2 : IntKind.i64.wrap ((S : Int) - (e : Int) - 7) = (S : Int) - e - 7 := by rw [IntKind.wrap_i64]; omega
  obtain ⟨ρ, hρ⟩ : ∃ ρ : Int, ρ = if s.falls ≠ f then -1 else if (S : Int) < (e : Int) + 8 then -1 else rm := ⟨_, rfl⟩
  rw [← hρ]
  have Hρ : Hid _ := hρ
  clear hρ
  have HRm : Hid (min ((S : Int) - (e : Int) - 7) 6000 = rm) := hRm
  go_enter Try.func18, Try.ntmps18
  go_wp2
  go_cut [3] (fun r wx => r = .int .i64 rm ∧ Below w.heap.size w wx)
  case first =>
    go_region_with (first
      | (go_at_call 52; refine (hsz _ (by first | exact hb0 | exact hb0.drew)).mono ?_; rintro r w2 ⟨rfl, h2⟩; have d3 := Dk.cellB (w := w) (hb0.drew.trans h2) hyl c3)
      | fail)
    all_goals
      go_wp2
      go_meet
      case rel => exact ⟨rfl, hb0.drew.trans h2⟩
  case rest =>
    obtain ⟨rfl, hbc⟩ := hcut
    have hbr2 := hbr wc hbc
    clear hbr hsz w1 w2 c0 c1 c2 c3 c4 hRm
    have hrm := HRm.out
    by_cases h1 : (S : Int) < (e : Int) + 8
    · have q1 : rm < 1 := by omega
      have HI : Hid _ := h1
      clear hrm h1
      have q2 : (if s.falls ≠ f then (-1 : Int) else -1) = -1 := by split <;> rfl
      have HQ : Hid _ := q2
      clear q2
      go_wp2
      go_ret
      exact ⟨by rw [Hρ.out, if_pos HI.out, HQ.out]; rfl, hbc⟩
    · have q1 : ¬ rm < 1 := by omega
      have HI : Hid _ := h1
      clear hrm h1
      by_cases hf : s.falls = f
      · have q2 : decide (s.falls = f) = true := by simp [hf]
        rw [q2] at hbr2
        go_wp2_with (go_at_call 54; refine hbr2.mono ?_; clear hbr2; rintro r w2 ⟨rfl, h2⟩)
        go_ret
        exact ⟨by rw [Hρ.out, if_neg HI.out, if_neg (by simp [hf])]; rfl, hbc.trans (h2.mono hbc.size)⟩
      · have q2 : decide (s.falls = f) = false := by simp [hf]
        rw [q2] at hbr2
        go_wp2_with (go_at_call 54; refine hbr2.mono ?_; clear hbr2; rintro r w2 ⟨rfl, h2⟩)
        go_ret
        exact ⟨by rw [Hρ.out, if_neg HI.out, if_pos hf]; rfl, hbc.trans (h2.mono hbc.size)⟩
end Go.Proofs
