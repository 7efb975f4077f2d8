/-
  Rows of bytes that are handed in.
-/
import Derived.Test.YtdlhonoppnfmpaaKja
namespace Go.Proofs
open Go.RowKit Go.Dk
/-- Rows of bytes that are handed in. -/
structure Dk.RowsIn (w : World) (v : Value) (l : List (List UInt8)) : Prop where
  ex : ∃ ad cap, v = .slice ad l.length cap ∧ l.length ≤ cap ∧ (l = [] ∨ ∃ sb so, ad = some ⟨sb, so, none⟩ ∧ sb < w.heap.size ∧ ∀ (i : Nat) (d : List UInt8), l[i]? = some d → ∃ u, w.cell? ⟨sb, so + i, none⟩ = some u ∧ Dk.Src w u d)
  sm : ∀ d ∈ l, d.length ≤ 140737488351232
theorem Dk.RowsIn.up {w w' : World} {v : Value} {l : List (List UInt8)} (h : Dk.RowsIn w v l) (hb : Below w.heap.size w w') : Dk.RowsIn w' v l := by
  obtain ⟨ad, cap, e, h0, h1⟩ := h.ex
  refine ⟨⟨ad, cap, e, h0, h1.imp id ?_⟩, h.sm⟩
  rintro ⟨sb, so, e1, e2, e3⟩
  refine ⟨sb, so, e1, Nat.lt_of_lt_of_le e2 hb.size, fun i d hd => ?_⟩
  obtain ⟨u, k1, k2⟩ := e3 i d hd
  exact ⟨u, (hb.cell (p := ⟨sb, so + i, none⟩) e2).trans k1, k2.up hb⟩
/-- One of the rows. -/
theorem Dk.RowsIn.at {w : World} {ad : Option Addr} {n cap : Nat} {l : List (List UInt8)} (h : Dk.RowsIn w (.slice ad n cap) l) {i : Nat} {d : List UInt8} (hd : l[i]? = some d) :
    ∃ sb so ad1 cap1, ad = some ⟨sb, so, none⟩ ∧ w.cell? ⟨sb, so + i, none⟩ = some (.slice ad1 d.length cap1) ∧ Dk.Src w (.slice ad1 d.length cap1) d ∧ d.length ≤ 140737488351232 := by
  obtain ⟨ad', cap', e, h0, h1⟩ := h.ex
  cases e
  rcases h1 with rfl | ⟨sb, so, rfl, _, h3⟩
  · simp at hd
  · obtain ⟨u, k1, k2⟩ := h3 i d hd
    obtain ⟨ad1, cap1, rfl, _⟩ := k2.ex
    exact ⟨sb, so, ad1, cap1, rfl, k1, k2, h.sm d (List.mem_of_getElem? hd)⟩
end Go.Proofs
