import Derived.Test.YtjfhpgafglmhdabDoorSmall
import Derived.Test.YtjfhpgafglmhdabDoorShelf
import Derived.BigCall
import Derived.Test.YtjfhpgafglmhdabDoorMath1
namespace Go.Proofs
open Go.RowKit
/-- A builder stays one where all old blocks stand. -/
theorem Sg.builderAt_below {T e : TypeId} {B b : Nat} {p : Value} {bs : List Value} {W W' : World} (h : Lib.BuilderAtF T e B b p bs W) (hb : Below W.heap.size W W') : Lib.BuilderAtF T e B b p bs W' := by
  obtain ⟨hB, v, hv, ⟨hl, hrow⟩, hne⟩ := h
  refine ⟨hB, v, ?_, ⟨hl, ?_⟩, hne⟩
  · rw [hb.block b (Array.getElem?_eq_some_iff.1 hv).1]; exact hv
  · rcases hrow with h1 | ⟨g, cap, cur, fz, h1, h2, h3, h4⟩
    · exact .inl h1
    · exact .inr ⟨g, cap, cur, fz, h1, h2, by rw [hb.block g (Array.getElem?_eq_some_iff.1 h3).1]; exact h3, h4⟩
theorem Sg.builder_below {T e : TypeId} {B b : Nat} {bs : List Value} {W W' : World} (h : Lib.IsBuilderF T e B b bs W) (hb : Below W.heap.size W W') : Lib.IsBuilderF T e B b bs W' :=
  h.elim (fun x => .inl (Sg.builderAt_below x hb)) (fun x => .inr (Sg.builderAt_below x hb))
theorem Tryd.wrong_any (s : ByteArray) (pos : Nat) (h : pos < s.size) (_hs : s.size ≤ maxLen) (r : Int) (w : World) :
    Calls Tryd.prog 42 #[.string s, .int .i64 pos, .int .i32 r] w fun e w' => e = .returned (.bool (Sg.wrongB s pos r)) ∧ w' = w := by
  unfold maxLen at _hs
  by_cases hr : r = 65533
  · subst hr
    have hc := Tryd.strings_HasPrefix (s.extract pos s.size) Sg.mark
    have e : Sg.wrongB s pos 65533 = !(Lib.hasPrefix (s.extract pos s.size).data.toList Sg.mark.data.toList) := by simp [Sg.wrongB]
    rw [e]
    generalize Lib.hasPrefix (s.extract pos s.size).data.toList Sg.mark.data.toList = b at hc ⊢
    clear e
    have Hc : Hid _ := hc
    clear hc
    go_enter Tryd.func42, Tryd.ntmps42
    go_wp2_with (go_at_call 57; refine (Hc.out _).mono ?_; rintro e w' ⟨rfl, rfl⟩)
    go_ret
    exact ⟨rfl, rfl⟩
  · have hr' : (r == 65533) = false := beq_eq_false_iff_ne.2 hr
    have e : Sg.wrongB s pos r = false := by simp [Sg.wrongB, hr]
    rw [e]
    clear e hr
    go_enter Tryd.func42, Tryd.ntmps42
    go_wp2_with fail
    go_ret
    exact ⟨rfl, rfl⟩
theorem Tryd.wrong_dec (s : ByteArray) (pos : Nat) (h : pos < s.size) (hs : s.size ≤ maxLen) (w : World) :
    Calls Tryd.prog 42 #[.string s, .int .i64 pos, .int .i32 (Utf8.decode s pos).1] w fun e w' => e = .returned (.bool (Sg.wrongAt s pos)) ∧ w' = w := by
  have := Tryd.wrong_any s pos h hs (Utf8.decode s pos).1 w
  rw [Sg.wrongB_decode] at this
  exact this
set_option maxHeartbeats 4000000 in
set_option maxRecDepth 1000000 in
theorem Tryd.valid_any (s : ByteArray) (w : World) (hs : s.size ≤ maxLen) :
    Calls Tryd.prog 26 #[.string s] w fun e w' => e = .returned (.bool (Sg.valid s)) ∧ Below w.heap.size w w' := by
  go_enter Tryd.func26, Tryd.ntmps26
  go_wp2
  go_loopw [] (fun wr => ∃ (pos fuel : Nat), wr.heap[w.heap.size]? = some (.stringIter s pos) ∧ Below w.heap.size w wr ∧ Sg.validFrom s fuel pos = Sg.valid s ∧ s.size ≤ pos + fuel) (fun wr => s.size - wr.iterPos w.heap.size)
  case atStart =>
    refine ⟨0, s.size, ?_, (Below.refl _ w).alloc (Nat.le_refl _) _, rfl, by omega⟩
    have := World.iter_heap w s 0
    simpa using this
  case round =>
    obtain ⟨pos, fuel, hit, hbw, hacc, hfu⟩ := hrel
    have hsz : w.heap.size < wr.heap.size := (Array.getElem?_eq_some_iff.1 hit).1
    by_cases hp : pos < s.size
    · have hnx : ∀ ty, (Instr.next (.pointer (some ⟨w.heap.size, 0, none⟩)) true ty).run Tryd.prog wr = _ := fun ty => Lib.run_next_any_at wr w.heap.size s pos ty hit hp
      have hwd := Lib.width_pos s pos
      have hit2 := Lib.iterAt_heap wr w.heap.size s pos (pos + (Utf8.decode s pos).2) hit
      have hbw2 := Lib.below_iterAt hbw (k := w.heap.size) (by omega) s (pos + (Utf8.decode s pos).2)
      obtain ⟨f, rfl⟩ : ∃ f, fuel = f + 1 := ⟨fuel - 1, by omega⟩
      have hw := Tryd.wrong_dec s pos hp hs
      rw [Sg.validFrom, if_pos hp] at hacc
      cases hwr : Sg.wrongAt s pos with
      | true =>
        rw [hwr] at hw hacc
        have Hw : Hid _ := hw
        have Ha : Hid _ := hacc
        clear hw hacc hwr
        go_wp2_with (go_at_call 42; refine (Hw.out _).mono ?_; rintro e w' ⟨rfl, rfl⟩)
        go_ret
        exact ⟨Sg.ret_bool (by rw [← Ha.out]; rfl), hbw2⟩
      | false =>
        rw [hwr] at hw hacc
        have Hw : Hid _ := hw
        have Ha : Hid _ := hacc
        clear hw hacc hwr
        go_wp2_with (go_at_call 42; refine (Hw.out _).mono ?_; rintro e w' ⟨rfl, rfl⟩)
        go_roundw
        case rel => exact ⟨_, f, hit2, hbw2, Ha.out, by omega⟩
        case measure =>
          simp only [World.iterPos, hit2, hit]
          omega
    · have hnx : ∀ ty, (Instr.next (.pointer (some ⟨w.heap.size, 0, none⟩)) true ty).run Tryd.prog wr = _ := fun ty => Lib.run_next_end_at wr w.heap.size s pos ty hit hp
      rw [Sg.validFrom_end s fuel pos hp] at hacc
      have Ha : Hid _ := hacc
      clear hacc
      go_wp2
      go_ret
      exact ⟨Sg.ret_bool Ha.out, hbw⟩
end Go.Proofs
