/-
  A []Do that came in (journal).
-/
import Derived.Test.YtkoojpaanpmgeaaKr
import Derived.Deep.SlicePairs
import Derived.OpenShut
import Derived.SizedLaws
import Derived.Carry
namespace Go.Proofs
open Go.RowKit Go.ChangeShapes Go.WideShapes Go.Deep Go.Dk
theorem Try.laidOut : laidOutB Try.prog = true := by kernel_rfl
theorem Try.cellsDo : Try.prog.cellsOf 52 = 4 := by kernel_rfl
theorem Try.cellsInt : Try.prog.cellsOf 3 = 1 := by kernel_rfl
theorem Try.cellsBool : Try.prog.cellsOf 4 = 1 := by kernel_rfl
instance : Inhabited Dk.Do := ⟨⟨false, false, 0, 0⟩⟩
set_option maxRecDepth 20000 in
theorem Try.open_dos {H : Type} {enc : TypeId × Value → H} {W : World} {a0 : Option Addr} {len cap fuel : Nat} {x : DataW H × List MemPlace}
    (hf : DataW.trod enc Try.prog W 0 (fun _ => true) true fuel 50 [.slice a0 len cap] = some x) : ∃ l : List Dk.Do, Dk.Dos W (.slice a0 len cap) l := by
  rcases open_slice Try.underlying50 hf with ⟨hcs, -⟩ | ⟨a, len', cap', m, n, D, Pl, hcs, _, hl, hm, hmm, -, hx⟩
  · simp at hcs
    obtain ⟨rfl, rfl, rfl⟩ := hcs
    exact ⟨[], ⟨none, 0, rfl, Nat.le_refl _, .inl rfl⟩, fun p hp => by cases hp⟩
  · simp at hcs
    obtain ⟨rfl, rfl, rfl⟩ := hcs
    have hm' : m = cap := by simpa using hmm
    subst hm'
    obtain ⟨b, off, spot⟩ := a
    have each : ∀ i, i < m → ∃ p : Dk.Do, (W.cell? ((⟨b, off, spot⟩ : Addr).add (i * 4)) = some (.bool p.c) ∧ W.cell? ((⟨b, off, spot⟩ : Addr).add (i * 4 + 1)) = some (.bool p.a) ∧ W.cell? ((⟨b, off, spot⟩ : Addr).add (i * 4 + 2)) = some (.int .i64 p.sz) ∧ W.cell? ((⟨b, off, spot⟩ : Addr).add (i * 4 + 3)) = some (.int .i64 p.lk)) ∧ Dk.J64 p.sz ∧ Dk.J64 p.lk := by
      intro i hi
      obtain ⟨cs', h1, h2⟩ := hx i hi
      rw [Try.cellsDo] at h1
      obtain ⟨_, hlen, hcell⟩ := World.cells?_some h1
      obtain ⟨xs, k, hk, hxy, _, hxl, hfl⟩ := DataW.trod_struct Try.underlying52 h2
      match xs, hxl, cs', hlen with
      | [y0, y1, y2, y3], _, [v0, v1, v2, v3], _ =>
        have g0 := hfl 0 _ rfl
        have g1 := hfl 1 _ rfl
        have g2 := hfl 2 _ rfl
        have g3 := hfl 3 _ rfl
        simp only [List.getElem_toArray, List.getElem_cons_zero, List.getElem_cons_succ, Try.cellsBool] at g0 g1
        simp only [List.getElem_toArray, List.getElem_cons_zero, List.getElem_cons_succ, Try.cellsInt] at g2 g3
        obtain ⟨n0, e0, -⟩ := DataW.trod_bool Try.underlying4 g0
        obtain ⟨n1, e1, -⟩ := DataW.trod_bool Try.underlying4 g1
        obtain ⟨n2, e2, -, b2⟩ := DataW.trod_int Try.underlying3 g2
        obtain ⟨n3, e3, -, b3⟩ := DataW.trod_int Try.underlying3 g3
        simp at e0 e1 e2 e3
        subst e0 e1 e2 e3
        have d0 := hcell 0 (by omega)
        have d1 := hcell 1 (by omega)
        have d2 := hcell 2 (by omega)
        have d3 := hcell 3 (by omega)
        rw [add_add] at d0 d1 d2 d3
        exact ⟨⟨n0, n1, n2, n3⟩, ⟨by simpa using d0, by simpa using d1, by simpa using d2, by simpa using d3⟩, bounds_i64 b2, bounds_i64 b3⟩
    obtain ⟨q, hq⟩ := choose_lt each
    have hll : ((List.range len).map q).length = len := by simp
    refine ⟨(List.range len).map q, ⟨some ⟨b, off, spot⟩, m, by rw [hll], by rw [hll]; exact hl, ?_⟩, fun p hp => ?_⟩
    · by_cases h0 : len = 0
      · subst h0; exact .inl rfl
      · have hc0 := (hq 0 (by omega)).1.1
        have hspot : spot = none := by simpa [Addr.add] using World.cell?_spot hc0
        subst hspot
        refine .inr ⟨b, off, rfl, World.block_lt_of_cell? _ _ (by simpa [Addr.add] using hc0), fun j p hj => ?_⟩
        have hj' : j < len := by have := (List.getElem?_eq_some_iff.1 hj).1; rwa [hll] at this
        have hp : p = q j := by simpa [hj'] using hj.symm
        subst hp
        obtain ⟨r0, r1, r2, r3⟩ := (hq j (by omega)).1
        rw [Addr.add_mid] at r0 r1 r2 r3
        exact ⟨r0, r1, r2, r3⟩
    · obtain ⟨i, hi, rfl⟩ := List.mem_map.1 hp
      exact (hq i (by have := List.mem_range.1 hi; omega)).2
end Go.Proofs
