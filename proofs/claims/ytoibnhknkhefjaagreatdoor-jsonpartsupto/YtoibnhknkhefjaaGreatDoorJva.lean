/-
  'sign.Valid', as the values call it.
-/
import Derived.Test.YtoibnhknkhefjaaGreatDoorJrl
import Derived.BigCall
import Derived.Test.YtoibnhknkhefjaaGreatDoorMath1
import Derived.Test.YtoibnhknkhefjaaGreatDoorShelf
namespace Go.Proofs
open Go.RowKit
theorem Tryz.wrong_any (s : ByteArray) (pos : Nat) (h : pos < s.size) (_hs : s.size ≤ maxLen) (r : Int) (w : World) :
    Calls Tryz.prog 58 #[.string s, .int .i64 pos, .int .i32 r] w fun e w' => e = .returned (.bool (Sg.wrongB s pos r)) ∧ w' = w := by
  unfold maxLen at _hs
  by_cases hr : r = 65533
  · subst hr
    have hc := Tryz.strings_HasPrefix (s.extract pos s.size) Sg.mark
    have e : Sg.wrongB s pos 65533 = !(Lib.hasPrefix (s.extract pos s.size).data.toList Sg.mark.data.toList) := by simp [Sg.wrongB]
    rw [e]
    generalize Lib.hasPrefix (s.extract pos s.size).data.toList Sg.mark.data.toList = b at hc ⊢
    clear e
    have Hc : Hid _ := hc
    clear hc
    go_enter Tryz.func58, Tryz.ntmps58
    go_wp2_with (go_at_call 85; refine (Hc.out _).mono ?_; rintro e w' ⟨rfl, rfl⟩)
    go_ret
    exact ⟨rfl, rfl⟩
  · have hr' : (r == 65533) = false := beq_eq_false_iff_ne.2 hr
    have e : Sg.wrongB s pos r = false := by simp [Sg.wrongB, hr]
    rw [e]
    clear e hr
    go_enter Tryz.func58, Tryz.ntmps58
    go_wp2_with fail
    go_ret
    exact ⟨rfl, rfl⟩
theorem Tryz.wrong_dec (s : ByteArray) (pos : Nat) (h : pos < s.size) (hs : s.size ≤ maxLen) (w : World) :
    Calls Tryz.prog 58 #[.string s, .int .i64 pos, .int .i32 (Utf8.decode s pos).1] w fun e w' => e = .returned (.bool (Sg.wrongAt s pos)) ∧ w' = w := by
  have := Tryz.wrong_any s pos h hs (Utf8.decode s pos).1 w
  rw [Sg.wrongB_decode] at this
  exact this
set_option maxHeartbeats 4000000 in
set_option maxRecDepth 1000000 in
theorem Tryz.valid_any (s : ByteArray) (w : World) (hs : s.size ≤ maxLen) :
    Calls Tryz.prog 44 #[.string s] w fun e w' => e = .returned (.bool (Sg.valid s)) ∧ Below w.heap.size w w' := by
  go_enter Tryz.func44, Tryz.ntmps44
  go_wp2
  go_loopw [] (fun wr => ∃ (pos fuel : Nat), wr.heap[w.heap.size]? = some (.stringIter s pos) ∧ Below w.heap.size w wr ∧ Sg.validFrom s fuel pos = Sg.valid s ∧ s.size ≤ pos + fuel) (fun wr => s.size - wr.iterPos w.heap.size)
  case atStart =>
    refine ⟨0, s.size, ?_, (Below.refl _ w).alloc (Nat.le_refl _) _, rfl, by omega⟩
    have := World.iter_heap w s 0
    simpa using this
  case round =>
    obtain ⟨pos, fuel, hit, hbw, hacc, hfu⟩ := hrel
    have hsz : w.heap.size < wr.heap.size := (Array.getElem?_eq_some_iff.1 hit).1
    by_cases hp : pos < s.size
    · have hnx : ∀ ty, (Instr.next (.pointer (some ⟨w.heap.size, 0, none⟩)) true ty).run Tryz.prog wr = _ := fun ty => Lib.run_next_any_at wr w.heap.size s pos ty hit hp
      have hwd := Lib.width_pos s pos
      have hit2 := Lib.iterAt_heap wr w.heap.size s pos (pos + (Utf8.decode s pos).2) hit
      have hbw2 := Lib.below_iterAt hbw (k := w.heap.size) (by omega) s (pos + (Utf8.decode s pos).2)
      obtain ⟨f, rfl⟩ : ∃ f, fuel = f + 1 := ⟨fuel - 1, by omega⟩
      have hw := Tryz.wrong_dec s pos hp hs
      rw [Sg.validFrom, if_pos hp] at hacc
      cases hwr : Sg.wrongAt s pos with
      | true =>
        rw [hwr] at hw hacc
        have Hw : Hid _ := hw
        have Ha : Hid _ := hacc
        clear hw hacc hwr
        go_wp2_with (go_at_call 58; refine (Hw.out _).mono ?_; rintro e w' ⟨rfl, rfl⟩)
        go_ret
        exact ⟨Sg.ret_bool (by rw [← Ha.out]; rfl), hbw2⟩
      | false =>
        rw [hwr] at hw hacc
        have Hw : Hid _ := hw
        have Ha : Hid _ := hacc
        clear hw hacc hwr
        go_wp2_with (go_at_call 58; refine (Hw.out _).mono ?_; rintro e w' ⟨rfl, rfl⟩)
        go_roundw
        case rel => exact ⟨_, f, hit2, hbw2, Ha.out, by omega⟩
        case measure =>
          simp only [World.iterPos, hit2, hit]
          omega
    · have hnx : ∀ ty, (Instr.next (.pointer (some ⟨w.heap.size, 0, none⟩)) true ty).run Tryz.prog wr = _ := fun ty => Lib.run_next_end_at wr w.heap.size s pos ty hit hp
      rw [Sg.validFrom_end s fuel pos hp] at hacc
      have Ha : Hid _ := hacc
      clear hacc
      go_wp2
      go_ret
      exact ⟨Sg.ret_bool Ha.out, hbw⟩
/-- Both ways to say it. -/
theorem Jv.valid_eq (s : ByteArray) : ∀ (f p : Nat), s.size ≤ p + f → Sg.validFrom s f p = Lib.validD (s.data.toList.drop p) := by
  intro f
  induction f with
  | zero =>
    intro p h
    rw [List.drop_eq_nil_of_le (by rw [Array.length_toList]; exact h)]
    rfl
  | succ f ih =>
    intro p h
    rw [Sg.validFrom]
    by_cases hp : p < s.size
    · rw [if_pos hp, Lib.validD_step _ (Jv.drop_ne hp), Lib.decodeL_drop]
      unfold Sg.wrongAt
      have h1 := Lib.width_pos s p
      by_cases hw : Utf8.decode s p = (65533, 1)
      · rw [hw]; simp
      · have hw' : ¬ ((Utf8.decode s p).1 = 65533 ∧ (Utf8.decode s p).2 = 1) := fun e => hw (Prod.ext e.1 e.2)
        rw [if_neg hw', if_neg (by simpa using hw), ih _ (by omega), List.drop_drop]
    · rw [if_neg hp, List.drop_eq_nil_of_le (by rw [Array.length_toList]; exact Nat.le_of_not_lt hp)]
      rfl
theorem Jv.valid_d (s : ByteArray) : Sg.valid s = Lib.validD s.data.toList := by
  unfold Sg.valid
  rw [Jv.valid_eq s s.size 0 (by omega), List.drop_zero]
end Go.Proofs
