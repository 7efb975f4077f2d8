/-
  A [][]string that came in.
-/
import Derived.Test.YtdefebinnmimgaaWf
import Derived.Test.YtdefebinnmimgaaWIn
import Derived.SliceStrings
namespace Go.Proofs
open Go.RowKit Go.ChangeShapes Go.WideShapes Go.Deep Go.Wi
theorem Try.cellsStr6 : Try.prog.cellsOf 9 = 1 := by kernel_rfl
theorem Try.cellsStrs6 : Try.prog.cellsOf 50 = 1 := by kernel_rfl
theorem Try.bytesStr6 : Try.prog.bytesOf 9 = 16 := by kernel_rfl
theorem Try.bytesStrs6 : Try.prog.bytesOf 50 = 24 := by kernel_rfl
theorem Wi.weightsAll4 {H : Type} {P : Program} {e : TypeId} : ∀ (ds : List (DataW H)) (d : DataW H), d ∈ ds → ∀ n ∈ d.weights P e, n ∈ DataW.weightsAll P e ds
  | [], _, h, _, _ => by cases h
  | c :: r, d, h, n, hn => by
    simp only [DataW.weightsAll, List.mem_append]
    rcases List.mem_cons.1 h with rfl | h
    · exact .inl hn
    · exact .inr (Wi.weightsAll4 r d h n hn)
set_option maxRecDepth 20000 in
theorem Try.open_tx {H : Type} {enc : TypeId × Value → H} {W : World} {a0 : Option Addr} {len cap fuel : Nat} {x : DataW H × List MemPlace}
    (hf : DataW.trod enc Try.prog W 0 (fun _ => true) true fuel 50 [.slice a0 len cap] = some x) :
    ∃ l : List ByteArray, Tx W (.slice a0 len cap) l ∧ ((∀ n ∈ x.1.weights Try.prog 50, n ≤ 140737488351232) → l.length ≤ 140737488355328 ∧ ∀ s ∈ l, s.size ≤ 140737488355328) := by
  rcases open_strings Try.underlying50 Try.underlying9 Try.cellsStr6 hf with ⟨hcs, hx⟩ | ⟨a, len', cap', ss, hcs, _, hl, hm, hz, hx, hcell, _⟩
  · simp at hcs
    obtain ⟨rfl, rfl, rfl⟩ := hcs
    exact ⟨[], ⟨⟨none, 0, rfl, .inl rfl⟩, fun n c e => by cases e; rfl⟩, fun _ => ⟨Nat.zero_le _, fun s hs => by cases hs⟩⟩
  · simp at hcs
    obtain ⟨rfl, rfl, rfl⟩ := hcs
    subst hx
    simp only [if_true] at hz
    obtain ⟨b, off, spot⟩ := a
    have hlen : (ss.take len).length = len := by simp; omega
    refine ⟨ss.take len, ⟨⟨some ⟨b, off, spot⟩, cap, by rw [hlen], ?_⟩, fun n c e => by cases e⟩, fun hwt => ⟨?_, fun s hs => ?_⟩⟩
    · by_cases h0 : len = 0
      · subst h0; exact .inl rfl
      · have hc0 := hcell 0 (by omega)
        have hspot : spot = none := by simpa [Addr.add] using World.cell?_spot hc0
        subst hspot
        refine .inr ⟨b, off, rfl, World.block_lt_of_cell? _ _ (by simpa [Addr.add] using hc0), fun j hj => ?_⟩
        have hj' : j < len := by rw [hlen] at hj; exact hj
        have hc := hcell j (by omega)
        rw [Addr.add_mid] at hc
        rw [hc]
        have : (ss.take len)[j]? = ss[j]? := List.getElem?_take_of_lt hj'
        rw [List.getElem?_eq_getElem hj] at this
        rw [List.getD, ← this]
        rfl
    · have h8 := hwt _ (by
        simp only [DataW.weights, Try.underlying50, Try.bytesStr6]
        exact List.mem_cons_self)
      simp only [strs, List.length_map] at h8
      omega
    · have h8 := hwt s.data.toList.length (by
        simp only [DataW.weights, Try.underlying50]
        refine List.mem_cons_of_mem _ (List.mem_append_left _ (Wi.weightsAll4 _ (.lit (.string s.data.toList)) (List.mem_map.2 ⟨s, hs, rfl⟩) _ ?_))
        simp [DataW.weights])
      rw [Lib.size_eq]
      omega
set_option maxRecDepth 20000 in
theorem Try.open_lists {H : Type} {enc : TypeId × Value → H} {W : World} {a0 : Option Addr} {len cap fuel : Nat} {x : DataW H × List MemPlace}
    (hf : DataW.trod enc Try.prog W 0 (fun _ => true) true fuel 46 [.slice a0 len cap] = some x) (hw : ∀ n ∈ x.1.weights Try.prog 46, n ≤ 140737488351232) : ∃ ll : List (List ByteArray), Txs W (.slice a0 len cap) ll ∧ ll.length ≤ 140737488355328 ∧ (∀ l ∈ ll, l.length ≤ 140737488355328) ∧ ∀ l ∈ ll, ∀ s ∈ l, s.size ≤ 140737488355328 := by
  rcases open_slice Try.underlying46 hf with ⟨hcs, -⟩ | ⟨a, len', cap', m, n, D, Pl, hcs, _, hl, hm, hmm, hxx, hx⟩
  · simp at hcs
    obtain ⟨rfl, rfl, rfl⟩ := hcs
    exact ⟨[], ⟨none, 0, rfl, .inl rfl⟩, Nat.zero_le _, (fun l hl => by cases hl), (fun l hl => by cases hl)⟩
  · simp at hcs
    obtain ⟨rfl, rfl, rfl⟩ := hcs
    have hm' : m = cap := by simpa using hmm
    subst hm'
    obtain ⟨b, off, spot⟩ := a
    have each : ∀ i, i < m → ∃ d : List ByteArray, (∃ u, W.cell? ((⟨b, off, spot⟩ : Addr).add i) = some u ∧ Tx W u d) ∧ ((∀ n ∈ (D i).weights Try.prog 50, n ≤ 140737488351232) → d.length ≤ 140737488355328 ∧ ∀ s ∈ d, s.size ≤ 140737488355328) := by
      intro i hi
      obtain ⟨cs', h1, h2⟩ := hx i hi
      rw [Try.cellsStrs6, Nat.mul_one] at h1
      obtain ⟨_, hlen, hcell⟩ := World.cells?_some h1
      match cs', hlen with
      | [v], _ =>
        have d0 := hcell 0 (by omega)
        rw [add_add] at d0
        obtain ⟨ad, ln, cp, rfl⟩ : ∃ ad ln cp, v = .slice ad ln cp := by
          rcases open_slice Try.underlying50 h2 with ⟨e, -⟩ | ⟨a, ln, cp, _, _, _, _, e, _⟩
          · simp at e; exact ⟨_, _, _, e⟩
          · simp at e; exact ⟨_, _, _, e⟩
        obtain ⟨l, h3, h4⟩ := Try.open_tx h2
        exact ⟨l, ⟨_, by simpa using d0, h3⟩, h4⟩
    obtain ⟨q, hq⟩ := choose_lt each
    have hll : ((List.range len).map q).length = len := by simp
    have hwD : ∀ i, i < len → ∀ n ∈ (D i).weights Try.prog 50, n ≤ 140737488351232 := fun i hi n hn => hw n (by
      rw [hxx]
      simp only [DataW.weights, Try.underlying46]
      exact List.mem_cons_of_mem _ (List.mem_append_left _ (Wi.weightsAll4 _ (D i) (List.mem_map.2 ⟨i, List.mem_range.2 hi, rfl⟩) n hn)))
    have hlw : len ≤ 140737488355328 := by
      have h8 := hw _ (by
        rw [hxx]
        simp only [DataW.weights, Try.underlying46, Try.bytesStrs6]
        exact List.mem_cons_self)
      simp only [List.length_map, List.length_range] at h8
      omega
    refine ⟨(List.range len).map q, ⟨some ⟨b, off, spot⟩, m, by rw [hll], ?_⟩, by rw [hll]; exact hlw, fun d hd => ?_, fun d hd => ?_⟩
    · by_cases h0 : len = 0
      · subst h0; exact .inl rfl
      · obtain ⟨u0, hc0, -⟩ := (hq 0 (by omega)).1
        have hspot : spot = none := by simpa [Addr.add] using World.cell?_spot hc0
        subst hspot
        refine .inr ⟨b, off, rfl, World.block_lt_of_cell? _ _ (by simpa [Addr.add] using hc0), fun j hj => ?_⟩
        have hj' : j < len := by rwa [hll] at hj
        obtain ⟨u, r0, r1⟩ := (hq j (by omega)).1
        rw [Addr.add_mid] at r0
        exact ⟨u, r0, by simpa using r1⟩
    · obtain ⟨i, hi, rfl⟩ := List.mem_map.1 hd
      have hi' := List.mem_range.1 hi
      exact ((hq i (by omega)).2 (hwD i hi')).1
    · obtain ⟨i, hi, rfl⟩ := List.mem_map.1 hd
      have hi' := List.mem_range.1 hi
      exact ((hq i (by omega)).2 (hwD i hi')).2
end Go.Proofs
