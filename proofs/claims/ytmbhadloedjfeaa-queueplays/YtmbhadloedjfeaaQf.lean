/-
  Set.
-/
import Derived.Test.YtmbhadloedjfeaaQeS
namespace Go.Proofs
open Go.RowKit Go.Wi Go.Qu
set_option maxHeartbeats 1000000 in
theorem Try.setYesS {w : World} {own : Nat → Prop} {b : Nat} {s : Qs ByteArray} (h : Try.QuS w own b s) (f u d : Int) (h1 : 0 ≤ f) (h2 : f ≤ 1000000000) (h3 : 0 ≤ u) (h4 : u ≤ 2000000000) (h5 : 0 ≤ d) (h6 : d ≤ 1000000000) :
    Calls Try.prog 20 #[.pointer (some ⟨b, 0, none⟩), .int .i64 f, .int .i64 u, .int .i64 d] w fun e w' => e = .returned (.int .i64 0) ∧ Try.QCS own w w' b { s with f := f, u := u, d := d } := by
  have a1 := Try.within_yes h1 h2 w
  have a2 := Try.within_yes h3 h4 w
  have a3 := Try.within_yes h5 h6 w
  obtain ⟨v, g, hb, hr, hg, ho⟩ := h.ex
  have f4 := frozen_of_row w b 4 _ _ hb
  have f5 := frozen_of_row w b 5 _ _ hb
  have f6 := frozen_of_row w b 6 _ _ hb
  have c4 := cell_of_row w b 4 _ _ _ hb
  have c5 := cell_of_row w b 5 _ _ _ hb
  have c6 := cell_of_row w b 6 _ _ _ hb
  have HK : Hid (Try.QCS own w (((w.setCell ⟨b, 4, none⟩ (.int .i64 f)).setCell ⟨b, 5, none⟩ (.int .i64 u)).setCell ⟨b, 6, none⟩ (.int .i64 d)) b { s with f := f, u := u, d := d }) :=
    Try.QuS.set h hr hg ho { s with f := f, u := u, d := d } rfl ⟨h.inn.s1, h.inn.s2, h.inn.b1, h.inn.b2, h.inn.m2, h.inn.ln, h1, h2, h3, h4, h5, h6⟩ (heap_setCell_same _ b 6 _ _ _ (heap_setCell_same _ b 5 _ _ _ (heap_setCell_same w b 4 _ _ _ hb))) (fun j hj => (Below.heap_setCell _ ⟨b, 6, none⟩ _ j hj).trans ((Below.heap_setCell _ ⟨b, 5, none⟩ _ j hj).trans (Below.heap_setCell w ⟨b, 4, none⟩ _ j hj))) (by simp) ((((Wo.refl _ w).setCell b 4 _ (.inl h.ox)).setCell b 5 _ (.inl h.ox)).setCell b 6 _ (.inl h.ox))
  clear hb hr hg ho h h1 h2 h3 h4 h5 h6
  go_enter Try.func20, Try.ntmps20
  go_wp2_with (first
    | (go_at_call 22; refine a1.mono ?_; clear a1; rintro z w1 ⟨rfl, hw1⟩; rw [hw1]; clear hw1)
    | (go_at_call 22; refine a2.mono ?_; clear a2; rintro z w1 ⟨rfl, hw1⟩; rw [hw1]; clear hw1)
    | (go_at_call 22; refine a3.mono ?_; clear a3; rintro z w1 ⟨rfl, hw1⟩; rw [hw1]; clear hw1)
    | fail)
  go_ret
  exact ⟨rfl, HK.out⟩
set_option maxHeartbeats 1000000 in
theorem Try.setNoS (w : World) (b : Nat) (f u d : Int) (h : ¬ (0 ≤ f ∧ f ≤ 1000000000 ∧ 0 ≤ u ∧ u ≤ 2000000000 ∧ 0 ≤ d ∧ d ≤ 1000000000)) :
    Calls Try.prog 20 #[.pointer (some ⟨b, 0, none⟩), .int .i64 f, .int .i64 u, .int .i64 d] w fun e w' => e = .returned (.int .i64 1) ∧ w' = w := by
  by_cases h1 : 0 ≤ f ∧ f ≤ 1000000000
  · have a1 := Try.within_yes h1.1 h1.2 w
    by_cases h2 : 0 ≤ u ∧ u ≤ 2000000000
    · have a2 := Try.within_yes h2.1 h2.2 w
      have a3 := Try.within_no (n := d) (a := 0) (c := 1000000000) (fun h3 => h ⟨h1.1, h1.2, h2.1, h2.2, h3.1, h3.2⟩) w
      clear h h1 h2
      go_enter Try.func20, Try.ntmps20
      go_wp2_with (first
        | (go_at_call 22; refine a1.mono ?_; clear a1; rintro z w1 ⟨rfl, hw1⟩; rw [hw1]; clear hw1)
        | (go_at_call 22; refine a2.mono ?_; clear a2; rintro z w1 ⟨rfl, hw1⟩; rw [hw1]; clear hw1)
        | (go_at_call 22; refine a3.mono ?_; clear a3; rintro z w1 ⟨rfl, hw1⟩; rw [hw1]; clear hw1)
        | fail)
      go_ret
      exact ⟨rfl, rfl⟩
    · have a2 := Try.within_no h2 w
      clear h h1 h2
      go_enter Try.func20, Try.ntmps20
      go_wp2_with (first
        | (go_at_call 22; refine a1.mono ?_; clear a1; rintro z w1 ⟨rfl, hw1⟩; rw [hw1]; clear hw1)
        | (go_at_call 22; refine a2.mono ?_; clear a2; rintro z w1 ⟨rfl, hw1⟩; rw [hw1]; clear hw1)
        | fail)
      go_ret
      exact ⟨rfl, rfl⟩
  · have a1 := Try.within_no h1 w
    clear h h1
    go_enter Try.func20, Try.ntmps20
    go_wp2_with (first
      | (go_at_call 22; refine a1.mono ?_; clear a1; rintro z w1 ⟨rfl, hw1⟩; rw [hw1]; clear hw1)
      | fail)
    go_ret
    exact ⟨rfl, rfl⟩
end Go.Proofs
