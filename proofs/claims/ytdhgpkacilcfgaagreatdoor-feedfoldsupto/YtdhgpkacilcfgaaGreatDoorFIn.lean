/-
  FEED: counts that came in.
-/
import Derived.Test.YtdhgpkacilcfgaaGreatDoorFdA
import Derived.Deep.SlicePairs
import Derived.OpenShut
import Derived.SizedLaws
import Derived.Carry
namespace Go.Proofs
open Go.RowKit Go.ChangeShapes Go.WideShapes Go.Deep Go.Wi Go.Fd
theorem Tryz.cellsStrF : Tryz.prog.cellsOf 9 = 1 := by kernel_rfl
theorem Tryz.cellsIntF : Tryz.prog.cellsOf 3 = 1 := by kernel_rfl
theorem Tryz.cellsCnF : Tryz.prog.cellsOf 39 = 3 := by kernel_rfl
theorem Tryz.bytesCnF : Tryz.prog.bytesOf 39 = 32 := by kernel_rfl
set_option maxRecDepth 20000 in
theorem Tryz.open_counts {H : Type} {enc : TypeId × Value → H} {W : World} {v : Value} {fuel : Nat} {x : DataW H × List MemPlace}
    (hf : DataW.trod enc Tryz.prog W 0 (fun _ => true) true fuel 22 [v] = some x) (hw : ∀ n ∈ x.1.weights Tryz.prog 22, n ≤ 140737488351232) : ∃ L : List Cn, Cs W v L ∧ L.length ≤ 4398046510976 := by
  rcases open_slice Tryz.underlying22 hf with ⟨hcs, -⟩ | ⟨a, len', cap', m, n, D, Pl, hcs, _, hl, hm, hmm, hxx, hx⟩
  · obtain rfl : v = .slice none 0 0 := by simpa using hcs
    exact ⟨[], Cs.nil W, Nat.zero_le _⟩
  · obtain rfl : v = .slice (some a) len' cap' := by simpa using hcs
    have hm' : m = cap' := by simpa using hmm
    subst hm'
    obtain ⟨b, off, spot⟩ := a
    have each : ∀ i, i < m → ∃ p : Cn, W.cell? ((⟨b, off, spot⟩ : Addr).add (i * 3)) = some (.string p.room) ∧ W.cell? ((⟨b, off, spot⟩ : Addr).add (i * 3 + 1)) = some (.int .i64 p.un) ∧ W.cell? ((⟨b, off, spot⟩ : Addr).add (i * 3 + 2)) = some (.int .i64 p.hi) := by
      intro i hi
      obtain ⟨cs', h1, h2⟩ := hx i hi
      rw [Tryz.cellsCnF] at h1
      obtain ⟨_, hlen, hcell⟩ := World.cells?_some h1
      obtain ⟨xs, k, hk, hxy, _, hxl, hfl⟩ := DataW.trod_struct Tryz.underlying39 h2
      match xs, hxl, cs', hlen with
      | [y0, y1, y2], _, [v0, v1, v2], _ =>
        have g0 := hfl 0 _ rfl
        have g1 := hfl 1 _ rfl
        have g2 := hfl 2 _ rfl
        simp only [List.getElem_toArray, List.getElem_cons_zero, Tryz.cellsStrF] at g0
        simp only [List.getElem_toArray, List.getElem_cons_zero, List.getElem_cons_succ, Tryz.cellsIntF] at g1 g2
        obtain ⟨s0, e0, d0, -⟩ := DataW.trod_string Tryz.underlying9 g0
        obtain ⟨s1, e1, -⟩ := DataW.trod_int Tryz.underlying3 g1
        obtain ⟨s2, e2, -⟩ := DataW.trod_int Tryz.underlying3 g2
        simp at e0 e1 e2
        subst e0 e1 e2
        have z0 := hcell 0 (by omega)
        have z1 := hcell 1 (by omega)
        have z2 := hcell 2 (by omega)
        rw [add_add] at z0 z1 z2
        exact ⟨⟨s0, s1, s2⟩, by simpa using z0, by simpa using z1, by simpa using z2⟩
    obtain ⟨q, hq⟩ := choose_lt each
    have hll : ((List.range len').map q).length = len' := by simp
    have hlw : (len' + (m - len')) * 32 ≤ 140737488351232 := hw _ (by
      rw [hxx]
      simp only [DataW.weights, Tryz.underlying22, Tryz.bytesCnF, List.length_map, List.length_range]
      exact List.mem_cons_self)
    refine ⟨(List.range len').map q, ⟨some ⟨b, off, spot⟩, m, by rw [hll], by rw [hll]; omega, (fun e => by cases e), ?_⟩, by rw [hll]; omega⟩
    by_cases h0 : len' = 0
    · subst h0; exact .inl rfl
    · have hc0 := (hq 0 (by omega)).1
      have hspot : spot = none := by simpa [Addr.add] using World.cell?_spot hc0
      subst hspot
      refine .inr ⟨b, off, rfl, World.block_lt_of_cell? _ _ (by simpa [Addr.add] using hc0), fun j u hu => ?_⟩
      have hj : j < len' * 3 := by
        rcases Nat.lt_or_ge j (cnCells ((List.range len').map q)).length with e | e
        · rw [cnCells_len, hll] at e; exact e
        · rw [List.getElem?_eq_none e] at hu; cases hu
      have hat := cnCells_at ((List.range len').map q) (j / 3) (j % 3) (by omega) (by rw [hll]; omega)
      rw [show j / 3 * 3 + j % 3 = j by omega, hu] at hat
      obtain ⟨h1, h2, h3⟩ := hq (j / 3) (by omega)
      rw [Addr.add_mid] at h1 h2 h3
      simp only [List.getElem_map, List.getElem_range] at hat
      have hm3 : j % 3 = 0 ∨ j % 3 = 1 ∨ j % 3 = 2 := by omega
      rcases hm3 with e | e | e
      · rw [e] at hat
        rw [show off + j = off + j / 3 * 3 by omega, h1]
        simpa [cnE] using hat.symm
      · rw [e] at hat
        rw [show off + j = off + (j / 3 * 3 + 1) by omega, h2]
        simpa [cnE] using hat.symm
      · rw [e] at hat
        rw [show off + j = off + (j / 3 * 3 + 2) by omega, h3]
        simpa [cnE] using hat.symm
theorem Fd.has_lt {P : Program} {W : World} {r : Reach} {base : Nat} {a : Addr} {e : TypeId} {n : Nat} (h : W.has P r base a e n) : a.block < W.heap.size := by
  obtain ⟨-, -, row, cells, hs, -⟩ := h
  refine Nat.lt_of_not_le fun hn => ?_
  have hz : W.heap[a.block]? = none := Array.getElem?_eq_none hn
  simp [World.shape?, hz] at hs
theorem Fd.okWide_lt {P : Program} {W : World} {r : Reach} {base : Nat} {t e : TypeId} {a : Addr} {len cap : Nat} (hu : P.underlying t = some (.slice e)) (h : Value.okWide P W r base t (.slice (some a) len cap)) : a.block < W.heap.size := by
  unfold Value.okWide Cell.okWide at h
  simp only [hu] at h
  unfold Cell.ok at h
  simp only [hu] at h
  exact Fd.has_lt h.2.2
set_option maxRecDepth 20000 in
theorem Tryz.counts_below {W : World} {base : Nat} {a0 : Option Addr} {len cap : Nat} (h : Value.okWide Tryz.prog W .any base 22 (.slice a0 len cap)) : ∀ k, (Value.slice a0 len cap).ownBlock = some k → k < W.heap.size := by
  intro k hk
  cases a0 with
  | none => cases hk
  | some a =>
    cases hk
    exact Fd.okWide_lt Tryz.underlying22 h
theorem Tryz.laidOut : laidOutB Tryz.prog = true := by kernel_rfl
end Go.Proofs
