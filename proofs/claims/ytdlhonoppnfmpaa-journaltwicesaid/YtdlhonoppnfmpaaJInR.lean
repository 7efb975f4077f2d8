/-
  A [][]byte that came in (journal).
-/
import Derived.Test.YtdlhonoppnfmpaaJIn
import Derived.Test.YtdlhonoppnfmpaaKro
namespace Go.Proofs
open Go.RowKit Go.ChangeShapes Go.WideShapes Go.Deep Go.Dk
theorem Try.cellsBy : Try.prog.cellsOf 22 = 1 := by kernel_rfl
theorem Dk.weights_all {H : Type} {P : Program} {e : TypeId} : ∀ (ds : List (DataW H)) (d : DataW H), d ∈ ds → ∀ n ∈ d.weights P e, n ∈ DataW.weightsAll P e ds
  | [], _, h, _, _ => by cases h
  | c :: r, d, h, n, hn => by
    simp only [DataW.weightsAll, List.mem_append]
    rcases List.mem_cons.1 h with rfl | h
    · exact .inl hn
    · exact .inr (Dk.weights_all r d h n hn)
set_option maxRecDepth 20000 in
theorem Try.open_rows {H : Type} {enc : TypeId × Value → H} {W : World} {a0 : Option Addr} {len cap fuel : Nat} {x : DataW H × List MemPlace}
    (hf : DataW.trod enc Try.prog W 0 (fun _ => true) true fuel 23 [.slice a0 len cap] = some x) (hw : ∀ n ∈ x.1.weights Try.prog 23, n ≤ 140737488351232) : ∃ l : List (List UInt8), Dk.RowsIn W (.slice a0 len cap) l := by
  rcases open_slice Try.underlying23 hf with ⟨hcs, -⟩ | ⟨a, len', cap', m, n, D, Pl, hcs, _, hl, hm, hmm, hxx, hx⟩
  · simp at hcs
    obtain ⟨rfl, rfl, rfl⟩ := hcs
    exact ⟨[], ⟨none, 0, rfl, Nat.le_refl _, .inl rfl⟩, fun d hd => by cases hd⟩
  · simp at hcs
    obtain ⟨rfl, rfl, rfl⟩ := hcs
    have hm' : m = cap := by simpa using hmm
    subst hm'
    obtain ⟨b, off, spot⟩ := a
    have each : ∀ i, i < m → ∃ d : List UInt8, (∃ u, W.cell? ((⟨b, off, spot⟩ : Addr).add i) = some u ∧ Dk.Src W u d) ∧ ((∀ n ∈ (D i).weights Try.prog 22, n ≤ 140737488351232) → d.length ≤ 140737488351232) := by
      intro i hi
      obtain ⟨cs', h1, h2⟩ := hx i hi
      rw [Try.cellsBy, Nat.mul_one] at h1
      obtain ⟨_, hlen, hcell⟩ := World.cells?_some h1
      match cs', hlen with
      | [v], _ =>
        have d0 := hcell 0 (by omega)
        rw [add_add] at d0
        obtain ⟨ad, ln, cp, rfl⟩ : ∃ ad ln cp, v = .slice ad ln cp := by
          rcases open_slice Try.underlying22 h2 with ⟨e, -⟩ | ⟨a, ln, cp, _, _, _, _, e, _⟩
          · simp at e; exact ⟨_, _, _, e⟩
          · simp at e; exact ⟨_, _, _, e⟩
        obtain ⟨l, h3, h4⟩ := Try.open_bytes h2
        refine ⟨l, ⟨_, by simpa using d0, h3⟩, fun hwt => ?_⟩
        rcases h4 with e | ⟨el, sp, e1, e2⟩
        · rw [e]; exact Nat.zero_le _
        · have e1' : D i = .slice el sp := e1
          have h8 := hwt ((el.length + sp.length) * 1) (by
            rw [e1']
            simp only [DataW.weights, Try.underlying22, Try.bytesU8]
            exact List.mem_cons_self)
          omega
    obtain ⟨q, hq⟩ := choose_lt each
    have hll : ((List.range len).map q).length = len := by simp
    have hwD : ∀ i, i < len → ∀ n ∈ (D i).weights Try.prog 22, n ≤ 140737488351232 := fun i hi n hn => hw n (by
      rw [hxx]
      simp only [DataW.weights, Try.underlying23]
      exact List.mem_cons_of_mem _ (List.mem_append_left _ (Dk.weights_all _ (D i) (List.mem_map.2 ⟨i, List.mem_range.2 hi, rfl⟩) n hn)))
    refine ⟨(List.range len).map q, ⟨some ⟨b, off, spot⟩, m, by rw [hll], by rw [hll]; exact hl, ?_⟩, fun d hd => ?_⟩
    · by_cases h0 : len = 0
      · subst h0; exact .inl rfl
      · obtain ⟨u0, hc0, -⟩ := (hq 0 (by omega)).1
        have hspot : spot = none := by simpa [Addr.add] using World.cell?_spot hc0
        subst hspot
        refine .inr ⟨b, off, rfl, World.block_lt_of_cell? _ _ (by simpa [Addr.add] using hc0), fun j d hj => ?_⟩
        have hj' : j < len := by have := (List.getElem?_eq_some_iff.1 hj).1; rwa [hll] at this
        have hp : d = q j := by simpa [hj'] using hj.symm
        subst hp
        obtain ⟨u, r0, r1⟩ := (hq j (by omega)).1
        rw [Addr.add_mid] at r0
        exact ⟨u, r0, r1⟩
    · obtain ⟨i, hi, rfl⟩ := List.mem_map.1 hd
      have hi' := List.mem_range.1 hi
      exact (hq i (by omega)).2 (hwD i hi')
end Go.Proofs
