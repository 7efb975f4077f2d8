/-
  Done, above a floor; numbers folded to the right of 0.
-/
import Derived.Test.YtmfgglfbboacgaaQhI
import Derived.Test.YtmfgglfbboacgaaQgI
import Derived.Test.YtmfgglfbboacgaaQi
import Derived.Deep.DeepCutAuto
import Derived.Deep.CutBlock
namespace Go.Proofs
open Go.RowKit Go.Wi Go.Qu
section
variable {B : Nat} {w w' : World} {b : Nat} {s : Qs Int}
theorem Try.doneYesI_f (h : Try.QfI B w b s) {x : Int} {r : List Int} (hl : s.l = x :: r) :
    Calls Try.prog 10 #[.pointer (some ⟨b, 0, none⟩)] w fun e w' => e = .returned (.int .i64 0) ∧ Try.QfI B w' b { s with l := r, f := 0, u := 0 } ∧ Below B w w' := by
  obtain ⟨g, h2, h3, h4⟩ := h
  exact (Try.doneYesI h2 hl).mono fun z w' ⟨h5, h6⟩ => ⟨h5, h6.floor h3 h4⟩
theorem Try.doneNoI_f (h : Try.QfI B w b s) (hl : s.l = []) :
    Calls Try.prog 10 #[.pointer (some ⟨b, 0, none⟩)] w fun e w' => e = .returned (.int .i64 2) ∧ w' = w := by
  obtain ⟨g, h1, h2, h3⟩ := h
  exact Try.doneNoI h1 hl
end
end Go.Proofs
