/-
  A []Thing that came in.
-/
import Derived.Test.YtghpbagmpgphfaaVm
import Derived.Test.YtghpbagmpgphfaaWIn
namespace Go.Proofs
open Go.RowKit Go.ChangeShapes Go.WideShapes Go.Deep Go.Wi
theorem Try.cellsTh : Try.prog.cellsOf 36 = 5 := by kernel_rfl
theorem Try.cellsI : Try.prog.cellsOf 3 = 1 := by kernel_rfl
theorem Try.cellsI6 : Try.prog.cellsOf 2 = 1 := by kernel_rfl
theorem Try.cellsBo : Try.prog.cellsOf 4 = 1 := by kernel_rfl
theorem Try.cellsSt : Try.prog.cellsOf 9 = 1 := by kernel_rfl
theorem Try.cellsLi : Try.prog.cellsOf 31 = 1 := by kernel_rfl
instance : Inhabited Wi.Th := ⟨⟨0, 0, false, ByteArray.empty, .slice none 0 0⟩⟩
set_option maxRecDepth 20000 in
theorem Try.open_things {H : Type} {enc : TypeId × Value → H} {W : World} {a0 : Option Addr} {len cap fuel : Nat} {x : DataW H × List MemPlace}
    (hf : DataW.trod enc Try.prog W 0 (fun _ => true) true fuel 23 [.slice a0 len cap] = some x) : ∃ l : List Wi.Th, Wi.Things W (.slice a0 len cap) l ∧ True := by
  rcases open_slice Try.underlying23 hf with ⟨hcs, -⟩ | ⟨a, len', cap', m, n, D, Pl, hcs, _, hl, hm, hmm, -, hx⟩
  · simp at hcs
    obtain ⟨rfl, rfl, rfl⟩ := hcs
    exact ⟨[], ⟨⟨none, 0, rfl, Nat.le_refl _, Nat.zero_le _, .inl rfl⟩, fun p hp => by cases hp⟩, trivial⟩
  · simp at hcs
    obtain ⟨rfl, rfl, rfl⟩ := hcs
    have hm' : m = cap := by simpa using hmm
    subst hm'
    obtain ⟨b, off, spot⟩ := a
    have each : ∀ i, i < m → ∃ p : Wi.Th, (W.cell? ((⟨b, off, spot⟩ : Addr).add (i * 5)) = some (.int .i64 p.k) ∧ W.cell? ((⟨b, off, spot⟩ : Addr).add (i * 5 + 1)) = some (.int .i64 p.n) ∧ W.cell? ((⟨b, off, spot⟩ : Addr).add (i * 5 + 2)) = some (.bool p.y) ∧ W.cell? ((⟨b, off, spot⟩ : Addr).add (i * 5 + 3)) = some (.string p.s) ∧ W.cell? ((⟨b, off, spot⟩ : Addr).add (i * 5 + 4)) = some p.lv) ∧ (-9223372036854775808 ≤ p.k ∧ p.k ≤ 9223372036854775807) ∧ (-9223372036854775808 ≤ p.n ∧ p.n ≤ 9223372036854775807) ∧ ∃ a n c, p.lv = .slice a n c := by
      intro i hi
      obtain ⟨cs', h1, h2⟩ := hx i hi
      rw [Try.cellsTh] at h1
      obtain ⟨_, hlen, hcell⟩ := World.cells?_some h1
      obtain ⟨xs, k, hk, hxy, _, hxl, hfl⟩ := DataW.trod_struct Try.underlying36 h2
      match xs, hxl, cs', hlen with
      | [y0, y1, y2, y3, y4], _, [v0, v1, v2, v3, v4], _ =>
        have g0 := hfl 0 _ rfl
        have g1 := hfl 1 _ rfl
        have g2 := hfl 2 _ rfl
        have g3 := hfl 3 _ rfl
        have g4 := hfl 4 _ rfl
        simp only [List.getElem_toArray, List.getElem_cons_zero, Try.cellsI] at g0
        simp only [List.getElem_toArray, List.getElem_cons_zero, List.getElem_cons_succ, Try.cellsI6] at g1
        simp only [List.getElem_toArray, List.getElem_cons_zero, List.getElem_cons_succ, Try.cellsBo] at g2
        simp only [List.getElem_toArray, List.getElem_cons_zero, List.getElem_cons_succ, Try.cellsSt] at g3
        simp only [List.getElem_toArray, List.getElem_cons_zero, List.getElem_cons_succ, Try.cellsLi] at g4
        obtain ⟨n0, e0, -, b0⟩ := DataW.trod_int Try.underlying3 g0
        obtain ⟨n1, e1, -, b1⟩ := DataW.trod_int Try.underlying2 g1
        obtain ⟨n2, e2, -⟩ := DataW.trod_bool Try.underlying4 g2
        obtain ⟨n3, e3, -⟩ := DataW.trod_string Try.underlying9 g3
        have e4 : ∃ a n c, v4 = .slice a n c := by
          rcases open_slice Try.underlying31 g4 with ⟨h, -⟩ | ⟨a, l', c', _, _, _, _, h, -⟩
          · simp at h; exact ⟨none, 0, 0, h⟩
          · simp at h; exact ⟨_, _, _, h⟩
        simp at e0 e1 e2 e3
        subst e0 e1 e2 e3
        have d0 := hcell 0 (by omega)
        have d1 := hcell 1 (by omega)
        have d2 := hcell 2 (by omega)
        have d3 := hcell 3 (by omega)
        have d4 := hcell 4 (by omega)
        rw [add_add] at d0 d1 d2 d3 d4
        exact ⟨⟨n0, n1, n2, n3, v4⟩, ⟨by simpa using d0, by simpa using d1, by simpa using d2, by simpa using d3, by simpa using d4⟩, bounds_i64 b0, bounds_i64 b1, e4⟩
    obtain ⟨q, hq⟩ := choose_lt each
    have hll : ((List.range len).map q).length = len := by simp
    refine ⟨(List.range len).map q, ⟨⟨some ⟨b, off, spot⟩, m, by rw [hll], by rw [hll]; exact hl, hm, ?_⟩, fun p hp => ?_⟩, trivial⟩
    · by_cases h0 : len = 0
      · subst h0; exact .inl rfl
      · have hc0 := (hq 0 (by omega)).1.1
        have hspot : spot = none := by simpa [Addr.add] using World.cell?_spot hc0
        subst hspot
        refine .inr ⟨b, off, rfl, World.block_lt_of_cell? _ _ (by simpa [Addr.add] using hc0), fun j p hj => ?_⟩
        have hj' : j < len := by have := (List.getElem?_eq_some_iff.1 hj).1; rwa [hll] at this
        have hp : p = q j := by simpa [hj'] using hj.symm
        subst hp
        obtain ⟨r0, r1, r2, r3, r4⟩ := (hq j (by omega)).1
        rw [Addr.add_mid] at r0 r1 r2 r3 r4
        exact ⟨r0, r1, r2, r3, r4⟩
    · obtain ⟨i, hi, rfl⟩ := List.mem_map.1 hp
      exact (hq i (by have := List.mem_range.1 hi; omega)).2
end Go.Proofs
