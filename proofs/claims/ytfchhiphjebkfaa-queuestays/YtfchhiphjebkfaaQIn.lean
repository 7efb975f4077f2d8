/-
  A []int that came in.
-/
import Derived.Test.YtfchhiphjebkfaaQa
import Derived.Deep.SlicePairs
import Derived.OpenShut
import Derived.SizedLaws
import Derived.Carry
namespace Go.Proofs
open Go.RowKit Go.ChangeShapes Go.WideShapes Go.Deep Go.Qu
/-- Numbers that lie somewhere. -/
structure Qu.Iv (w : World) (v : Value) (l : List Int) : Prop where
  ex : ∃ a cap, v = .slice a l.length cap ∧ (l = [] ∨ ∃ g o, a = some ⟨g, o, none⟩ ∧ g < w.heap.size ∧ ∀ j (hj : j < l.length), w.cell? ⟨g, o + j, none⟩ = some (.int .i64 l[j]))
  ib : ∀ n ∈ l, -9223372036854775808 ≤ n ∧ n ≤ 9223372036854775807
theorem Qu.Iv.keep {W W' : World} {v : Value} {l : List Int} (h : Qu.Iv W v l) (hb : Below W.heap.size W W') : Qu.Iv W' v l := by
  obtain ⟨⟨a, c, h1, h2⟩, h3⟩ := h
  refine ⟨⟨a, c, h1, ?_⟩, h3⟩
  rcases h2 with h2 | ⟨g, o, e, hg, h4⟩
  · exact .inl h2
  · exact .inr ⟨g, o, e, Nat.lt_of_lt_of_le hg hb.size, fun j hj => (hb.cell (p := ⟨g, o + j, none⟩) hg).trans (h4 j hj)⟩
theorem Try.laidOut : laidOutB Try.prog = true := by kernel_rfl
theorem Try.cellsInt : Try.prog.cellsOf 3 = 1 := by kernel_rfl
theorem Try.bytesInt : Try.prog.bytesOf 3 = 8 := by kernel_rfl
theorem Try.open_ints {H : Type} {enc : TypeId × Value → H} {W : World} {a0 : Option Addr} {len cap fuel : Nat} {x : DataW H × List MemPlace}
    (hf : DataW.trod enc Try.prog W 0 (fun _ => true) true fuel 22 [.slice a0 len cap] = some x) : ∃ l : List Int, Qu.Iv W (.slice a0 len cap) l ∧ (l.length = 0 ∨ ∃ el sp, x.1 = .slice el sp ∧ el.length = l.length) := by
  rcases open_slice Try.underlying22 hf with ⟨hcs, -⟩ | ⟨a, len', cap', m, n, D, Pl, hcs, _, hl, hm, hmm, hxx, hx⟩
  · simp at hcs
    obtain ⟨rfl, rfl, rfl⟩ := hcs
    exact ⟨[], ⟨⟨none, 0, rfl, .inl rfl⟩, fun n hn => by simp at hn⟩, .inl rfl⟩
  · simp at hcs
    obtain ⟨rfl, rfl, rfl⟩ := hcs
    have hm' : m = cap := by simpa using hmm
    subst hm'
    obtain ⟨b, off, spot⟩ := a
    have each : ∀ i, i < m → ∃ c : Int, W.cell? ((⟨b, off, spot⟩ : Addr).add i) = some (.int .i64 c) ∧ -9223372036854775808 ≤ c ∧ c ≤ 9223372036854775807 := by
      intro i hi
      obtain ⟨cs', h1, h2⟩ := hx i hi
      rw [Try.cellsInt, Nat.mul_one] at h1
      obtain ⟨_, hlen, hcell⟩ := World.cells?_some h1
      obtain ⟨n0, e0, -, b0⟩ := DataW.trod_int Try.underlying3 h2
      have d0 := hcell 0 (by omega)
      rw [add_add] at d0
      subst e0
      exact ⟨n0, by simpa using d0, bounds_i64 b0⟩
    obtain ⟨q, hq⟩ := choose_lt each
    have hll : ((List.range len).map q).length = len := by simp
    refine ⟨(List.range len).map q, ⟨⟨some ⟨b, off, spot⟩, m, by rw [hll], ?_⟩, fun n hn => ?_⟩, .inr ⟨_, _, by rw [hxx], by rw [hll]; simp⟩⟩
    · by_cases h0 : len = 0
      · subst h0; exact .inl rfl
      · have hc0 := (hq 0 (by omega)).1
        have hspot : spot = none := by simpa [Addr.add] using World.cell?_spot hc0
        subst hspot
        refine .inr ⟨b, off, rfl, World.block_lt_of_cell? _ _ (by simpa [Addr.add] using hc0), fun j hj => ?_⟩
        rw [hll] at hj
        have h1 := (hq j (by omega)).1
        rw [Addr.add_mid] at h1
        rw [h1]
        simp
    · obtain ⟨i, hi, rfl⟩ := List.mem_map.1 hn
      exact (hq i (by have := List.mem_range.1 hi; omega)).2
theorem Try.sized_ints {H : Type} {ts : List TypeId} {ds : List (DataW H)} (hsz : (DataW.weightsEach Try.prog ts ds).all (· ≤ reachBytes) = true) {j : Nat} {l : List Int} {d : DataW H} (ht : ts[j]? = some 22) (hd : ds[j]? = some d) (h : l.length = 0 ∨ ∃ el sp, d = .slice el sp ∧ el.length = l.length) : l.length ≤ 140737488351232 := by
  rcases h with e | ⟨el, sp, e1, e2⟩
  · omega
  · have := sized_slice hsz (j := j) (t := 22) (elems := el) (spare := sp) ht (by rw [hd, e1]) Try.underlying22
    rw [Try.bytesInt, e2] at this
    have hr : reachBytes = 140737488351232 := by decide
    omega
end Go.Proofs
