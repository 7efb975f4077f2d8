/-
  step: Head, Done, Failed, State, Set (written by genstep.py).
-/
import Derived.Test.YtmbhadloedjfeaaRg
namespace Go.Proofs
open Go.RowKit Go.Wi Go.Qu
theorem Try.RC.up {own : Nat → Prop} {w w' : World} {b m : Nat} {s : Qs ByteArray} (h : Try.RC own w w' b s m) : Try.RC own w w' b s (m + 1) := by
  obtain ⟨own', h1, h2⟩ := h.ex
  exact ⟨⟨own', h1.mono (Nat.le_succ m), h2⟩, h.wo⟩
theorem Try.RC.same {own : Nat → Prop} {w w' : World} {b m : Nat} {s : Qs ByteArray} (h : Try.Rq w own b s m) (e : w' = w) : Try.RC own w w' b s m := by
  subst e
  exact Try.RC.ofBelow h (Below.refl _ _)
theorem Try.QCS.same {own : Nat → Prop} {w w' : World} {b : Nat} {s : Qs ByteArray} (h : Try.QuS w own b s) (e : w' = w) : Try.QCS own w w' b s := by
  subst e
  exact Try.QCS.refl h
end Go.Proofs
