/-
  A []string that came in.
-/
import Derived.Test.YtkfnjmkajhfhlaaProg
import Derived.WalkKit
import Derived.SliceStrings
import Derived.SizedLaws
import Derived.Below
import Derived.Carry
namespace Go.Proofs
open Go.RowKit Go.ChangeShapes Go.WideShapes
theorem Try.cellsStr : Try.prog.cellsOf 9 = 1 := by kernel_rfl
theorem Try.laidOut : laidOutB Try.prog = true := by kernel_rfl
/-- A row of texts, nil or not. -/
def Strs (W : World) (v : Value) (l : List ByteArray) : Prop :=
  l.length ≤ maxLen ∧ ∃ a c b off, v = .slice a l.length c ∧ (0 < l.length → a = some ⟨b, off, none⟩ ∧ b < W.heap.size) ∧ ∀ (j : Nat) (X : ByteArray), l[j]? = some X → W.cell? ⟨b, off + j, none⟩ = some (.string X)
theorem Strs.keep {W W' : World} {v : Value} {l : List ByteArray} (h : Strs W v l) (hb : Below W.heap.size W W') : Strs W' v l := by
  obtain ⟨hm, a, c, b, off, h1, h2, h3⟩ := h
  refine ⟨hm, a, c, b, off, h1, fun h0 => ⟨(h2 h0).1, Nat.lt_of_lt_of_le (h2 h0).2 hb.size⟩, fun j X hj => ?_⟩
  have h0 : 0 < l.length := by have := (List.getElem?_eq_some_iff.1 hj).1; omega
  rw [hb.cell (p := ⟨b, off + j, none⟩) (h2 h0).2]
  exact h3 j X hj
theorem Try.open_texts {H : Type} {enc : TypeId × Value → H} {W : World} {a0 : Option Addr} {len cap fuel : Nat} {x : DataW H × List MemPlace}
    (hf : DataW.trod enc Try.prog W 0 (fun _ => true) true fuel 22 [.slice a0 len cap] = some x) :
    ∃ l : List ByteArray, Strs W (.slice a0 len cap) l ∧ (∀ X ∈ l, ∃ sp, x.1 = .slice (strs l) sp) := by
  rcases open_strings Try.underlying22 Try.underlying9 Try.cellsStr hf with ⟨hcs, hx⟩ | ⟨a, len', cap', ss, hcs, _, hl, hm, hz, hx, hcell, _⟩
  · simp at hcs
    obtain ⟨rfl, rfl, rfl⟩ := hcs
    exact ⟨[], ⟨Nat.zero_le _, none, 0, 0, 0, rfl, fun h => absurd h (by simp), fun j X h => by simp at h⟩, fun X h => by simp at h⟩
  · simp at hcs
    obtain ⟨rfl, rfl, rfl⟩ := hcs
    subst hx
    simp only [if_true] at hz
    obtain ⟨b, off, spot⟩ := a
    have hlen : (ss.take len).length = len := by simp; omega
    refine ⟨ss.take len, ⟨by omega, some ⟨b, off, spot⟩, cap, b, off, by rw [hlen], fun h0 => ?_, fun j X hX => ?_⟩, fun X _ => ⟨_, rfl⟩⟩
    · have hc0 := hcell 0 (by omega)
      have hspot : spot = none := by simpa [Addr.add] using World.cell?_spot hc0
      subst hspot
      exact ⟨rfl, World.block_lt_of_cell? _ _ (by simpa [Addr.add] using hc0)⟩
    · have hj : j < len := by have := (List.getElem?_eq_some_iff.1 hX).1; omega
      have hc := hcell j (by omega)
      have hspot : spot = none := by simpa [Addr.add] using World.cell?_spot (hcell 0 (by omega))
      subst hspot
      have hadd : (⟨b, off, none⟩ : Addr).add j = ⟨b, off + j, none⟩ := by unfold Addr.add; split <;> simp_all
      rw [hadd] at hc
      rw [hc]
      rw [List.getElem?_take_of_lt hj] at hX
      rw [List.getD, hX]
      rfl
theorem weightsAll_strs {H : Type} {P : Program} {e : TypeId} : ∀ (l : List ByteArray) (X : ByteArray), X ∈ l → X.data.toList.length ∈ DataW.weightsAll P e (strs l : List (DataW H))
  | [], X, h => by simp at h
  | Y :: l, X, h => by
    show X.data.toList.length ∈ DataW.weights P e (.lit (.string Y.data.toList)) ++ DataW.weightsAll P e (strs l)
    rcases List.mem_cons.1 h with rfl | h
    · exact List.mem_append_left _ (by simp [DataW.weights])
    · exact List.mem_append_right _ (weightsAll_strs l X h)
theorem sized_texts {H : Type} {P : Program} {ts : List TypeId} {ds : List (DataW H)} (h : (DataW.weightsEach P ts ds).all (· ≤ reachBytes) = true) {j : Nat} {t e : TypeId} {l : List ByteArray} {sp : List (DataW H)} (ht : ts[j]? = some t) (hd : ds[j]? = some (.slice (strs l) sp)) (hu : P.underlying t = some (.slice e)) :
    ∀ X ∈ l, X.size ≤ 140737488351232 := by
  intro X hX
  have hm : X.data.toList.length ∈ DataW.weightsEach P ts ds := DataW.weights_mem_each ht hd _ (by
    simp only [DataW.weights, hu]
    exact List.mem_cons_of_mem _ (List.mem_append_left _ (weightsAll_strs l X hX)))
  have := List.all_eq_true.1 h _ hm
  have e : X.size = X.data.toList.length := Array.length_toList.symm
  rw [e]
  exact of_decide_eq_true this
end Go.Proofs
