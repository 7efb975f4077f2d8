/-
  FEED: the stable sort of a row of one's own.
-/
import Derived.Test.YtdhgpkacilcfgaaGreatDoorFeD
namespace Go.Proofs
open Go.RowKit Go.Wi Go.Fd Go.Sort
set_option maxHeartbeats 1000000 in
set_option maxRecDepth 100000 in
theorem Tryz.sort_row {w : World} {B : Nat} {V : Value} {l : List Cn} (h : w.ownsRow B 39 3 V l.length (cnCells l)) (hl : l.length ≤ 4398046511104) :
    Calls Tryz.prog 40 #[V, .func (.func 33) #[] #[]] w fun e w' => e = .returned (.tuple #[]) ∧ w'.ownsRow B 39 3 V l.length (cnCells (stab l)) ∧ w.grownBy w' V.ownBlock := by
  rcases h.2 with ⟨rfl, h0⟩ | ⟨g, cap, cur, rfl, hB, hb, h1, h2, h3, h4⟩
  · have hx : l = [] := List.eq_nil_of_length_eq_zero h0
    subst hx
    have hs := fun W => Tryz.stable_none none 0 W
    clear h h0 hl
    go_enter Tryz.func40, Tryz.ntmps40
    go_wp2_with (first
      | (go_at_call 51; refine (hs _).mono ?_; clear hs; rintro e w1 ⟨rfl, rfl⟩)
      | fail)
    go_end0
    refine ⟨rfl, ?_, World.grownBy.refl _ _⟩
    have e : stab [] = [] := List.eq_nil_of_length_eq_zero (stab_len [])
    rw [e]
    exact World.ownsRow_nil _ _ _ _
  · have hs := Tryz.stable_any g cap l.toArray w (holds_cn hb h4) (block_lt hb) (by simp; omega)
    have HS : Hid (∀ n os, _ ∧ _) := fun n os => sorted_row (w := w) (B := B) (T := 39) (l := l) hB hb h1 h2 h3 (stabA Fd.ltR l.toArray) (by rw [stabA_sz]; simp) n os
    simp only [List.size_toArray] at hs
    clear h hb h4
    go_enter Tryz.func40, Tryz.ntmps40
    go_wp2_with (first
      | (go_at_call 51; refine hs.mono ?_; clear hs; rintro e w1 ⟨rfl, n, os, rfl⟩)
      | fail)
    go_end0
    exact ⟨rfl, (HS.out n os).1, (HS.out n os).2⟩
end Go.Proofs
