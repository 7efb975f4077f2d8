/-
  A []Op that came in, with what is read of it.
-/
import Derived.Test.YtnfpocpeglfdbaaDyW
import Derived.Test.YtnfpocpeglfdbaaWBulk
import Derived.Deep.SlicePairs
import Derived.OpenShut
import Derived.SizedLaws
import Derived.Carry
namespace Go.Proofs
open Go.RowKit Go.ChangeShapes Go.WideShapes Go.Deep Go.Dk
theorem Try.laidOut : laidOutB Try.prog = true := by kernel_rfl
theorem Try.cellsOp : Try.prog.cellsOf 33 = 6 := by kernel_rfl
theorem Try.cellsCr : Try.prog.cellsOf 31 = 2 := by kernel_rfl
theorem Try.cellsInt : Try.prog.cellsOf 3 = 1 := by kernel_rfl
theorem Try.cellsSt : Try.prog.cellsOf 9 = 1 := by kernel_rfl
instance : Inhabited Opn := ⟨⟨0, 0, 0, ByteArray.empty, 0, 0⟩⟩
open Go.Proofs.Ytnfpocpeglfdbaa in
theorem bulkAll_mem {H : Type} {l : List (DataW H)} {d : DataW H} (h : d ∈ l) : Rows.uptoBulk d ≤ Rows.uptoBulkAll l := by
  induction l with
  | nil => cases h
  | cons c r ih =>
    simp only [Rows.uptoBulkAll]
    rcases List.mem_cons.1 h with e | e
    · subst e; omega
    · have := ih e; omega
open Go.Proofs.Ytnfpocpeglfdbaa in
theorem bulkAll_times {H : Type} {n : Nat} {l : List (DataW H)} (h : ∀ d ∈ l, n ≤ Rows.uptoBulk d) : n * l.length ≤ Rows.uptoBulkAll l := by
  induction l with
  | nil => simp
  | cons c r ih =>
    simp only [Rows.uptoBulkAll, List.length_cons]
    have h1 := h c (.head _)
    have h2 := ih fun d hd => h d (.tail _ hd)
    rw [Nat.mul_add, Nat.mul_one]
    omega
open Go.Proofs.Ytnfpocpeglfdbaa in
set_option maxRecDepth 20000 in
theorem Try.open_opns {H : Type} {enc : TypeId × Value → H} {W : World} {a0 : Option Addr} {len cap fuel : Nat} {x : DataW H × List MemPlace}
    (hf : DataW.trod enc Try.prog W 0 (fun _ => true) true fuel 22 [.slice a0 len cap] = some x) (hbk : Rows.uptoBulk x.1 ≤ 1048576) : ∃ l : List Opn, OpsIn W (.slice a0 len cap) l ∧ l.length ≤ 200000 := by
  rcases open_slice Try.underlying22 hf with ⟨hcs, -⟩ | ⟨a, len', cap', m, n, D, Pl, hcs, _, hl, hm, hmm, hxx, hx⟩
  · simp at hcs
    obtain ⟨rfl, rfl, rfl⟩ := hcs
    exact ⟨[], ⟨⟨none, 0, rfl, Nat.le_refl _, .inl rfl⟩, fun p hp => by cases hp⟩, by simp⟩
  · simp at hcs
    obtain ⟨rfl, rfl, rfl⟩ := hcs
    have hm' : m = cap := by simpa using hmm
    subst hm'
    obtain ⟨b, off, spot⟩ := a
    have each : ∀ i, i < m → ∃ p : Opn, (∀ k u, p.cs[k]? = some u → W.cell? ((⟨b, off, spot⟩ : Addr).add (i * 6 + k)) = some u) ∧ (-9223372036854775808 ≤ p.N ∧ p.N ≤ 9223372036854775807) ∧ p.I ≤ 9223372036854775807 ∧ p.b.size + 6 ≤ Rows.uptoBulk (D i) := by
      intro i hi
      obtain ⟨cs', h1, h2⟩ := hx i hi
      rw [Try.cellsOp] at h1
      obtain ⟨_, hlen, hcell⟩ := World.cells?_some h1
      obtain ⟨xs, k, hk, hxy, _, hxl, hfl⟩ := DataW.trod_struct Try.underlying33 h2
      match xs, hxl, cs', hlen with
      | [y0, y1, y2, y3, y4], _, [v0, v1, v2, v3, v4, v5], _ =>
        have g0 := hfl 0 _ rfl
        have g1 := hfl 1 _ rfl
        have g2 := hfl 2 _ rfl
        have g3 := hfl 3 _ rfl
        have g4 := hfl 4 _ rfl
        simp only [List.getElem_toArray, List.getElem_cons_zero, List.getElem_cons_succ, Try.cellsInt] at g0 g1 g2
        simp only [List.getElem_toArray, List.getElem_cons_zero, List.getElem_cons_succ, Try.cellsSt] at g3
        simp only [List.getElem_toArray, List.getElem_cons_zero, List.getElem_cons_succ, Try.cellsCr] at g4
        obtain ⟨n0, e0, -, b0⟩ := DataW.trod_int Try.underlying3 g0
        obtain ⟨n1, e1, -, b1⟩ := DataW.trod_int Try.underlying3 g1
        obtain ⟨n2, e2, -, b2⟩ := DataW.trod_int Try.underlying3 g2
        obtain ⟨n3, e3, d3, -⟩ := DataW.trod_string Try.underlying9 g3
        obtain ⟨z0, z1, nn, -, -, c0, c1⟩ := trod_struct2 Try.underlying31 g4
        simp only [Try.cellsInt] at c0 c1
        obtain ⟨n4, e4, -, b4⟩ := DataW.trod_int Try.underlying3 c0
        obtain ⟨n5, e5, -, b5⟩ := DataW.trod_int Try.underlying3 c1
        simp at e0 e1 e2 e3 e4 e5
        subst e0 e1 e2 e3 e4 e5
        have f0 := hcell 0 (by omega)
        have f1 := hcell 1 (by omega)
        have f2 := hcell 2 (by omega)
        have f3 := hcell 3 (by omega)
        have f4 := hcell 4 (by omega)
        have f5 := hcell 5 (by omega)
        rw [add_add] at f0 f1 f2 f3 f4 f5
        have hbD : n3.size + 6 ≤ Rows.uptoBulk (D i) := by
          have eD : D i = DataW.agg [y0.1, y1.1, y2.1, y3.1, y4.1] := congrArg Prod.fst hxy
          rw [eD]
          simp only [Rows.uptoBulk, Rows.uptoBulkAll]
          have := bulk_one y0.1
          have := bulk_one y1.1
          have := bulk_one y2.1
          have := bulk_one y4.1
          have h3 : Rows.uptoBulk y3.1 = n3.size + 1 := by
            rw [d3]
            simp [Rows.uptoBulk]
          omega
        refine ⟨⟨n0, n1, n2, n3, n4, n5⟩, fun k u hu => ?_, bounds_i64 b1, (bounds_i64 b2).2, hbD⟩
        match k, hu with
        | 0, hu => simp [Opn.cs] at hu; subst hu; simpa using f0
        | 1, hu => simp [Opn.cs] at hu; subst hu; simpa using f1
        | 2, hu => simp [Opn.cs] at hu; subst hu; simpa using f2
        | 3, hu => simp [Opn.cs] at hu; subst hu; simpa using f3
        | 4, hu => simp [Opn.cs] at hu; subst hu; simpa using f4
        | 5, hu => simp [Opn.cs] at hu; subst hu; simpa using f5
        | k + 6, hu => simp [Opn.cs] at hu
    obtain ⟨q, hq⟩ := choose_lt each
    have hll : ((List.range len).map q).length = len := by simp
    have hbk2 : Rows.uptoBulkAll (List.map D (List.range len)) ≤ 1048576 := by
      rw [hxx] at hbk
      simp only [Rows.uptoBulk] at hbk
      omega
    have h6 : 6 * len ≤ 1048576 := by
      have := bulkAll_times (n := 6) (l := List.map D (List.range len)) fun d hd => by
        obtain ⟨i, hi, rfl⟩ := List.mem_map.1 hd
        have := (hq i (by have := List.mem_range.1 hi; omega)).2.2.2
        omega
      simp at this
      omega
    refine ⟨(List.range len).map q, ⟨⟨some ⟨b, off, spot⟩, m, by rw [hll], by rw [hll]; exact hl, ?_⟩, fun p hp => ?_⟩, by rw [hll]; omega⟩
    · by_cases h0 : len = 0
      · subst h0; exact .inl rfl
      · have hc0 := (hq 0 (by omega)).1 0 _ rfl
        have hspot : spot = none := by simpa [Addr.add] using World.cell?_spot hc0
        subst hspot
        refine .inr ⟨b, off, rfl, World.block_lt_of_cell? _ _ (by simpa [Addr.add] using hc0), fun j u hu => ?_⟩
        have hj : j < len * 6 := by
          have := (List.getElem?_eq_some_iff.1 hu).1
          rw [ocs_len, hll] at this
          exact this
        have hat := ocs_at ((List.range len).map q) (j / 6) (q (j / 6)) (by rw [List.getElem?_map, List.getElem?_range (by omega)]; rfl) (j % 6) ((q (j / 6)).cs[j % 6]'(Nat.mod_lt _ (by decide))) (List.getElem?_eq_getElem _)
        rw [show j / 6 * 6 + j % 6 = j by omega, hu] at hat
        have h1 := (hq (j / 6) (by omega)).1 (j % 6) u ((List.getElem?_eq_getElem (l := (q (j / 6)).cs) (i := j % 6) (Nat.mod_lt _ (by decide))).trans hat.symm)
        rw [show j / 6 * 6 + j % 6 = j by omega, Addr.add_mid] at h1
        exact h1
    · obtain ⟨i, hi, rfl⟩ := List.mem_map.1 hp
      have hi2 := List.mem_range.1 hi
      have h1 := hq i (by omega)
      have h2 := bulkAll_mem (l := List.map D (List.range len)) (d := D i) (List.mem_map.2 ⟨i, hi, rfl⟩)
      exact ⟨h1.2.1, h1.2.2.1, by have := h1.2.2.2; omega⟩
end Go.Proofs
