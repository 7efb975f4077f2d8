/-
  Sizes and steps that came in.
-/
import Derived.Test.YtmbhadloedjfeaaRk
namespace Go.Proofs
open Go.RowKit Go.ChangeShapes Go.WideShapes Go.Deep Go.Qu
theorem Try.laidOut : laidOutB Try.prog = true := by kernel_rfl
theorem Try.cellsOp : Try.prog.cellsOf 30 = 6 := by kernel_rfl
theorem Try.cellsSize : Try.prog.cellsOf 23 = 3 := by kernel_rfl
theorem Try.cellsInt : Try.prog.cellsOf 3 = 1 := by kernel_rfl
theorem Try.cellsStr : Try.prog.cellsOf 9 = 1 := by kernel_rfl
set_option maxRecDepth 20000 in
theorem Try.open_size {H : Type} {enc : TypeId × Value → H} {W : World} {r : Reach} {b0 : Nat} {v : Value} {d : DataW H} {ps : List MemPlace} (hval : Value.okWide Try.prog W r b0 23 v) (hd : DataW.Trod enc Try.prog W 0 (fun _ => true) true 23 v d ps) :
    ∃ K T U : Int, v = .agg #[.int .i64 K, .int .i64 T, .int .i64 U] := by
  obtain ⟨cs, rfl, hsz⟩ := okWide_struct Try.underlying23 hval
  rw [Try.cellsSize] at hsz
  obtain ⟨fuel, hf⟩ := hd
  obtain ⟨xs, k, hk, hxy, _, hxl, hfl⟩ := DataW.trod_struct Try.underlying23 hf
  obtain ⟨l⟩ := cs
  match l, hsz, xs, hxl with
  | [v0, v1, v2], _, [y0, y1, y2], _ =>
    have g0 := hfl 0 _ rfl
    have g1 := hfl 1 _ rfl
    have g2 := hfl 2 _ rfl
    simp only [List.getElem_toArray, List.getElem_cons_zero, List.getElem_cons_succ, Try.cellsInt, Value.cells] at g0 g1 g2
    obtain ⟨n0, e0, -⟩ := DataW.trod_int Try.underlying3 g0
    obtain ⟨n1, e1, -⟩ := DataW.trod_int Try.underlying3 g1
    obtain ⟨n2, e2, -⟩ := DataW.trod_int Try.underlying3 g2
    simp at e0 e1 e2
    exact ⟨n0, n1, n2, by rw [e0, e1, e2]⟩
set_option maxRecDepth 20000 in
theorem Try.open_ops {H : Type} {enc : TypeId × Value → H} {W : World} {a0 : Option Addr} {len cap fuel : Nat} {x : DataW H × List MemPlace}
    (hf : DataW.trod enc Try.prog W 0 (fun _ => true) true fuel 24 [.slice a0 len cap] = some x) : ∃ l : List Qu.O, Qu.Ops W (.slice a0 len cap) l := by
  rcases open_slice Try.underlying24 hf with ⟨hcs, -⟩ | ⟨a, len', cap', m, n, D, Pl, hcs, _, hl, hm, hmm, -, hx⟩
  · simp at hcs
    obtain ⟨rfl, rfl, rfl⟩ := hcs
    exact ⟨[], ⟨⟨none, 0, rfl, .inl rfl⟩, fun p hp => by cases hp⟩⟩
  · simp at hcs
    obtain ⟨rfl, rfl, rfl⟩ := hcs
    have hm' : m = cap := by simpa using hmm
    subst hm'
    obtain ⟨b, off, spot⟩ := a
    have each : ∀ i, i < m → ∃ p : Qu.O, (W.cell? ((⟨b, off, spot⟩ : Addr).add (i * 6)) = some (.int .i64 p.k) ∧ W.cell? ((⟨b, off, spot⟩ : Addr).add (i * 6 + 1)) = some (.int .i64 p.h) ∧ W.cell? ((⟨b, off, spot⟩ : Addr).add (i * 6 + 2)) = some (.int .i64 p.a) ∧ W.cell? ((⟨b, off, spot⟩ : Addr).add (i * 6 + 3)) = some (.int .i64 p.b) ∧ W.cell? ((⟨b, off, spot⟩ : Addr).add (i * 6 + 4)) = some (.int .i64 p.c) ∧ W.cell? ((⟨b, off, spot⟩ : Addr).add (i * 6 + 5)) = some (.string p.t)) ∧ -9223372036854775808 ≤ p.h ∧ p.h ≤ 9223372036854775807 := by
      intro i hi
      obtain ⟨cs', h1, h2⟩ := hx i hi
      rw [Try.cellsOp] at h1
      obtain ⟨_, hlen, hcell⟩ := World.cells?_some h1
      obtain ⟨xs, k, hk, hxy, _, hxl, hfl⟩ := DataW.trod_struct Try.underlying30 h2
      match xs, hxl, cs', hlen with
      | [y0, y1, y2, y3, y4, y5], _, [v0, v1, v2, v3, v4, v5], _ =>
        have g0 := hfl 0 _ rfl
        have g1 := hfl 1 _ rfl
        have g2 := hfl 2 _ rfl
        have g3 := hfl 3 _ rfl
        have g4 := hfl 4 _ rfl
        have g5 := hfl 5 _ rfl
        simp only [List.getElem_toArray, List.getElem_cons_zero, List.getElem_cons_succ, Try.cellsInt] at g0 g1 g2 g3 g4
        simp only [List.getElem_toArray, List.getElem_cons_zero, List.getElem_cons_succ, Try.cellsStr] at g5
        obtain ⟨n0, e0, -⟩ := DataW.trod_int Try.underlying3 g0
        obtain ⟨n1, e1, -, b1⟩ := DataW.trod_int Try.underlying3 g1
        obtain ⟨n2, e2, -⟩ := DataW.trod_int Try.underlying3 g2
        obtain ⟨n3, e3, -⟩ := DataW.trod_int Try.underlying3 g3
        obtain ⟨n4, e4, -⟩ := DataW.trod_int Try.underlying3 g4
        obtain ⟨n5, e5, -⟩ := DataW.trod_string Try.underlying9 g5
        simp at e0 e1 e2 e3 e4 e5
        subst e0 e1 e2 e3 e4 e5
        have d0 := hcell 0 (by omega)
        have d1 := hcell 1 (by omega)
        have d2 := hcell 2 (by omega)
        have d3 := hcell 3 (by omega)
        have d4 := hcell 4 (by omega)
        have d5 := hcell 5 (by omega)
        rw [add_add] at d0 d1 d2 d3 d4 d5
        exact ⟨⟨n0, n1, n2, n3, n4, n5⟩, ⟨by simpa using d0, by simpa using d1, by simpa using d2, by simpa using d3, by simpa using d4, by simpa using d5⟩, bounds_i64 b1⟩
    obtain ⟨q, hq⟩ := choose_lt each
    have hll : ((List.range len).map q).length = len := by simp
    refine ⟨(List.range len).map q, ⟨⟨some ⟨b, off, spot⟩, m, by rw [hll], ?_⟩, fun p hp => ?_⟩⟩
    · by_cases h0 : len = 0
      · subst h0; exact .inl rfl
      · have hc0 := (hq 0 (by omega)).1.1
        have hspot : spot = none := by simpa [Addr.add] using World.cell?_spot hc0
        subst hspot
        refine .inr ⟨b, off, rfl, World.block_lt_of_cell? _ _ (by simpa [Addr.add] using hc0), fun j hj => ?_⟩
        rw [hll] at hj
        obtain ⟨r0, r1, r2, r3, r4, r5⟩ := (hq j (by omega)).1
        rw [Addr.add_mid] at r0 r1 r2 r3 r4 r5
        simp only [List.getElem_map, List.getElem_range]
        exact ⟨r0, r1, r2, r3, r4, r5⟩
    · obtain ⟨i, hi, rfl⟩ := List.mem_map.1 hp
      exact (hq i (by have := List.mem_range.1 hi; omega)).2
end Go.Proofs
