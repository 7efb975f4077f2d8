/-
  A []Thing that came in, with all that hangs on it.
-/
import Derived.Test.YtdefebinnmimgaaVo
import Derived.Test.YtdefebinnmimgaaWIn2
namespace Go.Proofs
open Go.RowKit Go.ChangeShapes Go.WideShapes Go.Deep Go.Wi
theorem Try.bytesI64 : Try.prog.bytesOf 2 = 8 := by kernel_rfl
theorem Try.open_ints {H : Type} {enc : TypeId × Value → H} {W : World} {v : Value} {fuel : Nat} {x : DataW H × List MemPlace}
    (hf : DataW.trod enc Try.prog W 0 (fun _ => true) true fuel 32 [v] = some x) : ∃ li : List Int, Is W v li ∧ (li = [] ∨ ∃ el sp, x.1 = .slice el sp ∧ el.length = li.length) := by
  rcases open_slice Try.underlying32 hf with ⟨hcs, -⟩ | ⟨a, len, cap, m, n, D, Pl, hcs, _, hl, hm, hmm, hxx, hx⟩
  · simp at hcs
    subst hcs
    exact ⟨[], ⟨⟨none, 0, rfl, .inl rfl⟩, fun n hn => by cases hn⟩, .inl rfl⟩
  · simp at hcs
    subst hcs
    have hm' : m = cap := by simpa using hmm
    subst hm'
    obtain ⟨b, off, spot⟩ := a
    have each : ∀ i, i < m → ∃ c : Int, W.cell? ((⟨b, off, spot⟩ : Addr).add i) = some (.int .i64 c) ∧ In64 c := by
      intro i hi
      obtain ⟨cs', h1, h2⟩ := hx i hi
      rw [Try.cellsI6, Nat.mul_one] at h1
      obtain ⟨_, hlen, hcell⟩ := World.cells?_some h1
      obtain ⟨n0, e0, -, b0⟩ := DataW.trod_int Try.underlying2 h2
      have d0 := hcell 0 (by omega)
      rw [add_add] at d0
      subst e0
      exact ⟨n0, by simpa using d0, bounds_i64 b0⟩
    obtain ⟨q, hq⟩ := choose_lt each
    have hll : ((List.range len).map q).length = len := by simp
    refine ⟨(List.range len).map q, ⟨⟨some ⟨b, off, spot⟩, m, by rw [hll], ?_⟩, fun n hn => ?_⟩, .inr ⟨_, _, by rw [hxx], by simp⟩⟩
    · by_cases h0 : len = 0
      · subst h0; exact .inl rfl
      · have hc0 := (hq 0 (by omega)).1
        have hspot : spot = none := by simpa [Addr.add] using World.cell?_spot hc0
        subst hspot
        refine .inr ⟨b, off, rfl, World.block_lt_of_cell? _ _ (by simpa [Addr.add] using hc0), fun j hj => ?_⟩
        rw [hll] at hj
        have h1 := (hq j (by omega)).1
        rw [Addr.add_mid] at h1
        rw [h1]
        simp
    · obtain ⟨i, hi, rfl⟩ := List.mem_map.1 hn
      exact (hq i (by have := List.mem_range.1 hi; omega)).2
theorem Wi.weights_all {H : Type} {P : Program} {e : TypeId} : ∀ (ds : List (DataW H)) (d : DataW H), d ∈ ds → ∀ n ∈ d.weights P e, n ∈ DataW.weightsAll P e ds
  | [], _, h, _, _ => by cases h
  | c :: r, d, h, n, hn => by
    simp only [DataW.weightsAll, List.mem_append]
    rcases List.mem_cons.1 h with rfl | h
    · exact .inl hn
    · exact .inr (Wi.weights_all r d h n hn)
set_option maxRecDepth 20000 in
theorem Try.open_full {H : Type} {enc : TypeId × Value → H} {W : World} {a0 : Option Addr} {len cap fuel : Nat} {x : DataW H × List MemPlace}
    (hf : DataW.trod enc Try.prog W 0 (fun _ => true) true fuel 27 [.slice a0 len cap] = some x) (hw : ∀ n ∈ x.1.weights Try.prog 27, n ≤ 140737488351232) : ∃ (l : List Wi.Th) (f : Wi.Th → List Int), Wi.Things W (.slice a0 len cap) l ∧ Full W f l := by
  rcases open_slice Try.underlying27 hf with ⟨hcs, -⟩ | ⟨a, len', cap', m, n, D, Pl, hcs, _, hl, hm, hmm, hxx, hx⟩
  · simp at hcs
    obtain ⟨rfl, rfl, rfl⟩ := hcs
    exact ⟨[], fun _ => [], ⟨⟨none, 0, rfl, Nat.le_refl _, Nat.zero_le _, .inl rfl⟩, fun p hp => by cases hp⟩, ⟨(fun p hp => by cases hp), (fun p hp => by cases hp), (fun p hp => by cases hp), (fun p hp => by cases hp)⟩⟩
  · simp at hcs
    obtain ⟨rfl, rfl, rfl⟩ := hcs
    have hm' : m = cap := by simpa using hmm
    subst hm'
    obtain ⟨b, off, spot⟩ := a
    have each : ∀ i, i < m → ∃ p : Wi.Th, (W.cell? ((⟨b, off, spot⟩ : Addr).add (i * 5)) = some (.int .i64 p.k) ∧ W.cell? ((⟨b, off, spot⟩ : Addr).add (i * 5 + 1)) = some (.int .i64 p.n) ∧ W.cell? ((⟨b, off, spot⟩ : Addr).add (i * 5 + 2)) = some (.bool p.y) ∧ W.cell? ((⟨b, off, spot⟩ : Addr).add (i * 5 + 3)) = some (.string p.s) ∧ W.cell? ((⟨b, off, spot⟩ : Addr).add (i * 5 + 4)) = some p.lv) ∧ In64 p.k ∧ In64 p.n ∧ (∃ li, Is W p.lv li ∧ ((∀ n ∈ (D i).weights Try.prog 34, n ≤ 140737488351232) → p.s.size ≤ 140737488351232 ∧ li.length ≤ 140737488351232)) := by
      intro i hi
      obtain ⟨cs', h1, h2⟩ := hx i hi
      rw [Try.cellsTh] at h1
      obtain ⟨_, hlen, hcell⟩ := World.cells?_some h1
      obtain ⟨xs, k, hk, hxy, _, hxl, hfl⟩ := DataW.trod_struct Try.underlying34 h2
      match xs, hxl, cs', hlen with
      | [y0, y1, y2, y3, y4], _, [v0, v1, v2, v3, v4], _ =>
        have g0 := hfl 0 _ rfl
        have g1 := hfl 1 _ rfl
        have g2 := hfl 2 _ rfl
        have g3 := hfl 3 _ rfl
        have g4 := hfl 4 _ rfl
        simp only [List.getElem_toArray, List.getElem_cons_zero, Try.cellsI] at g0
        simp only [List.getElem_toArray, List.getElem_cons_zero, List.getElem_cons_succ, Try.cellsI6] at g1
        simp only [List.getElem_toArray, List.getElem_cons_zero, List.getElem_cons_succ, Try.cellsBo] at g2
        simp only [List.getElem_toArray, List.getElem_cons_zero, List.getElem_cons_succ, Try.cellsSt] at g3
        simp only [List.getElem_toArray, List.getElem_cons_zero, List.getElem_cons_succ, Try.cellsLi] at g4
        obtain ⟨n0, e0, -, b0⟩ := DataW.trod_int Try.underlying3 g0
        obtain ⟨n1, e1, -, b1⟩ := DataW.trod_int Try.underlying2 g1
        obtain ⟨n2, e2, -⟩ := DataW.trod_bool Try.underlying4 g2
        obtain ⟨n3, e3, d3, -⟩ := DataW.trod_string Try.underlying9 g3
        obtain ⟨li, hIs, hli⟩ := Try.open_ints (v := v4) g4
        simp at e0 e1 e2 e3
        subst e0 e1 e2 e3
        have z0 := hcell 0 (by omega)
        have z1 := hcell 1 (by omega)
        have z2 := hcell 2 (by omega)
        have z3 := hcell 3 (by omega)
        have z4 := hcell 4 (by omega)
        rw [add_add] at z0 z1 z2 z3 z4
        have hD : D i = .agg [y0.1, y1.1, y2.1, y3.1, y4.1] := congrArg Prod.fst hxy
        refine ⟨⟨n0, n1, n2, n3, v4⟩, ⟨by simpa using z0, by simpa using z1, by simpa using z2, by simpa using z3, by simpa using z4⟩, bounds_i64 b0, bounds_i64 b1, li, hIs, fun hwt => ⟨?_, ?_⟩⟩
        · refine hwt n3.size ?_
          rw [hD]
          simp only [DataW.weights, Try.underlying34]
          refine DataW.weights_mem_each (j := 3) (t := 9) (d := y3.1) rfl rfl _ ?_
          rw [d3]
          simp [DataW.weights]
        · rcases hli with e | ⟨el, sp, e5, e6⟩
          · rw [e]; exact Nat.zero_le _
          · have h8 := hwt ((el.length + sp.length) * 8) (by
              rw [hD]
              simp only [DataW.weights, Try.underlying34]
              refine DataW.weights_mem_each (j := 4) (t := 32) (d := y4.1) rfl rfl _ ?_
              rw [e5]
              simp only [DataW.weights, Try.underlying32, Try.bytesI64]
              exact List.mem_cons_self)
            omega
    obtain ⟨q, hq⟩ := choose_lt each
    have hll : ((List.range len).map q).length = len := by simp
    have hwD : ∀ i, i < len → ∀ n ∈ (D i).weights Try.prog 34, n ≤ 140737488351232 := fun i hi n hn => hw n (by
      rw [hxx]
      simp only [DataW.weights, Try.underlying27]
      exact List.mem_cons_of_mem _ (List.mem_append_left _ (Wi.weights_all _ (D i) (List.mem_map.2 ⟨i, List.mem_range.2 hi, rfl⟩) n hn)))
    classical
    refine ⟨(List.range len).map q, fun p => if h : ∃ li, Is W p.lv li ∧ li.length ≤ 140737488351232 then h.choose else [], ⟨⟨some ⟨b, off, spot⟩, m, by rw [hll], by rw [hll]; exact hl, hm, ?_⟩, fun p hp => ?_⟩, ?_⟩
    · by_cases h0 : len = 0
      · subst h0; exact .inl rfl
      · have hc0 := (hq 0 (by omega)).1.1
        have hspot : spot = none := by simpa [Addr.add] using World.cell?_spot hc0
        subst hspot
        refine .inr ⟨b, off, rfl, World.block_lt_of_cell? _ _ (by simpa [Addr.add] using hc0), fun j p hj => ?_⟩
        have hj' : j < len := by have := (List.getElem?_eq_some_iff.1 hj).1; rwa [hll] at this
        have hp : p = q j := by simpa [hj'] using hj.symm
        subst hp
        obtain ⟨r0, r1, r2, r3, r4⟩ := (hq j (by omega)).1
        rw [Addr.add_mid] at r0 r1 r2 r3 r4
        exact ⟨r0, r1, r2, r3, r4⟩
    · obtain ⟨i, hi, rfl⟩ := List.mem_map.1 hp
      obtain ⟨-, h1, h2, li, h3, -⟩ := hq i (by have := List.mem_range.1 hi; omega)
      obtain ⟨ad, c, e, -⟩ := h3.ex
      exact ⟨h1, h2, ad, _, c, e⟩
    · have hex : ∀ p ∈ (List.range len).map q, p.s.size ≤ 140737488351232 ∧ (∃ li, Is W p.lv li ∧ li.length ≤ 140737488351232) ∧ In64 p.k ∧ In64 p.n := fun p hp => by
        obtain ⟨i, hi, rfl⟩ := List.mem_map.1 hp
        have hi' := List.mem_range.1 hi
        obtain ⟨-, h1, h2, li, h3, h4⟩ := hq i (by omega)
        have h5 := h4 (hwD i hi')
        exact ⟨h5.1, ⟨li, h3, h5.2⟩, h1, h2⟩
      refine ⟨fun p hp => ?_, fun p hp => (hex p hp).1, fun p hp => ?_, fun p hp => (hex p hp).2.2⟩
      · have h := (hex p hp).2.1
        simp only [dif_pos h]
        exact h.choose_spec.1
      · have h := (hex p hp).2.1
        simp only [dif_pos h]
        exact h.choose_spec.2
end Go.Proofs
