/-
  Steps on sums that came in, opened.
-/
import Derived.Test.YtkfmfdnfjeofiaaDoorIw
import Derived.Deep.SlicePairs
import Derived.OpenShut
import Derived.SizedLaws
import Derived.Carry
namespace Go.Proofs
open Go.RowKit Go.ChangeShapes Go.WideShapes Go.Deep Go.Wi Go.Dg
theorem Tryd.laidOutD : laidOutB Tryd.prog = true := by kernel_rfl
theorem Tryd.cellsOpD : Tryd.prog.cellsOf 44 = 3 := by kernel_rfl
theorem Tryd.cellsIntD : Tryd.prog.cellsOf 3 = 1 := by kernel_rfl
theorem Tryd.cellsStrD : Tryd.prog.cellsOf 9 = 1 := by kernel_rfl
instance : Inhabited Dg.O := ⟨⟨0, 0, ⟨#[]⟩⟩⟩
theorem Dg.weights_all {H : Type} {P : Program} {e : TypeId} : ∀ (ds : List (DataW H)) (d : DataW H), d ∈ ds → ∀ n ∈ d.weights P e, n ∈ DataW.weightsAll P e ds
  | [], _, h, _, _ => by cases h
  | c :: r, d, h, n, hn => by
    simp only [DataW.weightsAll, List.mem_append]
    rcases List.mem_cons.1 h with rfl | h
    · exact .inl hn
    · exact .inr (Dg.weights_all r d h n hn)
set_option maxRecDepth 20000 in
theorem Tryd.open_opsD {H : Type} {enc : TypeId × Value → H} {W : World} {a0 : Option Addr} {len cap fuel : Nat} {x : DataW H × List MemPlace}
    (hf : DataW.trod enc Tryd.prog W 0 (fun _ => true) true fuel 37 [.slice a0 len cap] = some x) (hw : ∀ n ∈ x.1.weights Tryd.prog 37, n ≤ 140737488351232) : ∃ l : List Dg.O, Dg.Ops W (.slice a0 len cap) l := by
  rcases open_slice Tryd.underlying37 hf with ⟨hcs, -⟩ | ⟨a, len', cap', m, n, D, Pl, hcs, _, hl, hm, hmm, hxx, hx⟩
  · simp at hcs
    obtain ⟨rfl, rfl, rfl⟩ := hcs
    exact ⟨[], ⟨⟨none, 0, rfl, .inl rfl⟩, (fun p hp => by cases hp), (fun p hp => by cases hp), Nat.zero_le _⟩⟩
  · simp at hcs
    obtain ⟨rfl, rfl, rfl⟩ := hcs
    have hm' : m = cap := by simpa using hmm
    subst hm'
    obtain ⟨b, off, spot⟩ := a
    have each : ∀ i, i < m → ∃ p : Dg.O, (W.cell? ((⟨b, off, spot⟩ : Addr).add (i * 3)) = some (.int .i64 p.k) ∧ W.cell? ((⟨b, off, spot⟩ : Addr).add (i * 3 + 1)) = some (.int .i64 p.n) ∧ W.cell? ((⟨b, off, spot⟩ : Addr).add (i * 3 + 2)) = some (.string p.t)) ∧ (-9223372036854775808 ≤ p.n ∧ p.n ≤ 9223372036854775807) ∧ ((∀ n ∈ (D i).weights Tryd.prog 44, n ≤ 140737488351232) → p.t.size ≤ 140737488351232) := by
      intro i hi
      obtain ⟨cs', h1, h2⟩ := hx i hi
      rw [Tryd.cellsOpD] at h1
      obtain ⟨_, hlen, hcell⟩ := World.cells?_some h1
      obtain ⟨xs, k, hk, hxy, _, hxl, hfl⟩ := DataW.trod_struct Tryd.underlying44 h2
      match xs, hxl, cs', hlen with
      | [y0, y1, y2], _, [v0, v1, v2], _ =>
        have g0 := hfl 0 _ rfl
        have g1 := hfl 1 _ rfl
        have g2 := hfl 2 _ rfl
        simp only [List.getElem_toArray, List.getElem_cons_zero, List.getElem_cons_succ, Tryd.cellsIntD] at g0 g1
        simp only [List.getElem_toArray, List.getElem_cons_zero, List.getElem_cons_succ, Tryd.cellsStrD] at g2
        obtain ⟨n0, e0, -⟩ := DataW.trod_int Tryd.underlying3 g0
        obtain ⟨n1, e1, -, b1⟩ := DataW.trod_int Tryd.underlying3 g1
        obtain ⟨n2, e2, d2, -⟩ := DataW.trod_string Tryd.underlying9 g2
        simp at e0 e1 e2
        subst e0 e1 e2
        have z0 := hcell 0 (by omega)
        have z1 := hcell 1 (by omega)
        have z2 := hcell 2 (by omega)
        rw [add_add] at z0 z1 z2
        have hD : D i = .agg [y0.1, y1.1, y2.1] := congrArg Prod.fst hxy
        refine ⟨⟨n0, n1, n2⟩, ⟨by simpa using z0, by simpa using z1, by simpa using z2⟩, bounds_i64 b1, fun hwt => hwt n2.size ?_⟩
        rw [hD]
        simp only [DataW.weights, Tryd.underlying44]
        refine DataW.weights_mem_each (j := 2) (t := 9) (d := y2.1) rfl rfl _ ?_
        rw [d2]
        simp [DataW.weights]
    obtain ⟨q, hq⟩ := choose_lt each
    have hll : ((List.range len).map q).length = len := by simp
    have hwD : ∀ i, i < len → ∀ n ∈ (D i).weights Tryd.prog 44, n ≤ 140737488351232 := fun i hi n hn => hw n (by
      rw [hxx]
      simp only [DataW.weights, Tryd.underlying37]
      exact List.mem_cons_of_mem _ (List.mem_append_left _ (Dg.weights_all _ (D i) (List.mem_map.2 ⟨i, List.mem_range.2 hi, rfl⟩) n hn)))
    have hmx : len ≤ 9223372036854775807 := Nat.le_trans hl (Nat.le_trans hm (by decide))
    refine ⟨(List.range len).map q, ⟨⟨some ⟨b, off, spot⟩, m, by rw [hll], ?_⟩, fun p hp => ?_, fun p hp => ?_, by rw [hll]; exact hmx⟩⟩
    · by_cases h0 : len = 0
      · subst h0; exact .inl rfl
      · have hc0 := (hq 0 (by omega)).1.1
        have hspot : spot = none := by simpa [Addr.add] using World.cell?_spot hc0
        subst hspot
        refine .inr ⟨b, off, rfl, World.block_lt_of_cell? _ _ (by simpa [Addr.add] using hc0), fun j hj => ?_⟩
        rw [hll] at hj
        obtain ⟨r0, r1, r2⟩ := (hq j (by omega)).1
        rw [Addr.add_mid] at r0 r1 r2
        simp only [List.getElem_map, List.getElem_range]
        exact ⟨r0, r1, r2⟩
    · obtain ⟨i, hi, rfl⟩ := List.mem_map.1 hp
      exact (hq i (by have := List.mem_range.1 hi; omega)).2.1
    · obtain ⟨i, hi, rfl⟩ := List.mem_map.1 hp
      have hi' := List.mem_range.1 hi
      exact (hq i (by omega)).2.2 (hwD i hi')
end Go.Proofs
