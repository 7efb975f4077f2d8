/-
  Done (things: int).
-/
import Derived.Test.YtfchhiphjebkfaaQdI
namespace Go.Proofs
open Go.RowKit Go.Wi Go.Qu
set_option maxHeartbeats 1000000 in
theorem Try.doneYesI {w : World} {own : Nat → Prop} {b : Nat} {s : Qs Int} (h : Try.QuI w own b s) {x : Int} {r : List Int} (hl : s.l = x :: r) :
    Calls Try.prog 10 #[.pointer (some ⟨b, 0, none⟩)] w fun e w' => e = .returned (.int .i64 0) ∧ Try.QCI own w w' b { s with l := r, f := 0, u := 0 } := by
  have ht := Try.takeI h hl
  obtain ⟨v, g, hb, hr, hg, ho⟩ := h.ex
  obtain ⟨a, cap, rfl⟩ := hr.form
  rw [List.length_map, hl, List.length_cons] at hb
  have c3 := cell_of_row w b 3 _ _ _ hb
  clear hb hr hg ho hl
  go_enter Try.func10, Try.ntmps10
  go_wp2_with (first
    | (go_at_call 22; refine ht.mono ?_; clear ht; rintro z w1 ⟨rfl, hQ⟩; obtain ⟨own1, hQ1, ho1⟩ := hQ.ex; obtain ⟨v1, g1, hb1, hr1, hg1, ho1'⟩ := hQ1.ex; have f4 := frozen_of_row w1 b 4 _ _ hb1; have f5 := frozen_of_row w1 b 5 _ _ hb1; have d4 := cell_of_row w1 b 4 _ _ _ hb1; have d5 := cell_of_row w1 b 5 _ _ _ hb1; have HK : Hid (Try.QCI own w ((w1.setCell ⟨b, 4, none⟩ (.int .i64 0)).setCell ⟨b, 5, none⟩ (.int .i64 0)) b { s with l := r, f := 0, u := 0 }) := Try.QCI.trans hQ.wo ho1 (Try.QuI.set hQ1 hr1 hg1 ho1' { s with l := r, f := 0, u := 0 } rfl ⟨hQ1.inn.s1, hQ1.inn.s2, hQ1.inn.b1, hQ1.inn.b2, hQ1.inn.m2, hQ1.inn.ln, by simp, by simp, by simp, by simp, hQ1.inn.d1, hQ1.inn.d2⟩ (heap_setCell_same _ b 5 _ _ _ (heap_setCell_same w1 b 4 _ _ _ hb1)) (fun j hj => (Below.heap_setCell _ ⟨b, 5, none⟩ _ j hj).trans (Below.heap_setCell w1 ⟨b, 4, none⟩ _ j hj)) (by simp) (((Wo.refl _ w1).setCell b 4 _ (.inl hQ1.ox)).setCell b 5 _ (.inl hQ1.ox))); clear hQ hQ1 hb1 hr1 hg1 ho1' ho1)
    | fail)
  go_ret
  exact ⟨rfl, HK.out⟩
set_option maxHeartbeats 1000000 in
theorem Try.doneNoI {w : World} {own : Nat → Prop} {b : Nat} {s : Qs Int} (h : Try.QuI w own b s) (hl : s.l = []) :
    Calls Try.prog 10 #[.pointer (some ⟨b, 0, none⟩)] w fun e w' => e = .returned (.int .i64 2) ∧ w' = w := by
  obtain ⟨v, g, hb, hr, hg, ho⟩ := h.ex
  obtain ⟨a, cap, rfl⟩ := hr.form
  rw [hl] at hb
  have c3 := cell_of_row w b 3 _ _ _ hb
  clear hb hr hg ho h
  go_enter Try.func10, Try.ntmps10
  go_wp2
  go_ret
  exact ⟨rfl, rfl⟩
end Go.Proofs
