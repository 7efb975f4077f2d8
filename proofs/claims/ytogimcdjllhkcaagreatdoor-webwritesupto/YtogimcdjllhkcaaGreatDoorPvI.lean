/-
  Laid together by packg.py of Zi NIn.
-/
import Derived.Test.YtogimcdjllhkcaaGreatDoorVc
import Derived.Test.YtogimcdjllhkcaaGreatDoorPvH
import Derived.Deep.SlicePairs
import Derived.OpenShut
import Derived.SizedLaws
import Derived.Carry
namespace Go.Proofs
open Go.RowKit Go.ChangeShapes Go.WideShapes Go.Deep
/-- Numbers that lie somewhere. -/
structure Qu.Iv (w : World) (v : Value) (l : List Int) : Prop where
  ex : ∃ a cap, v = .slice a l.length cap ∧ (l = [] ∨ ∃ g o, a = some ⟨g, o, none⟩ ∧ g < w.heap.size ∧ ∀ j (hj : j < l.length), w.cell? ⟨g, o + j, none⟩ = some (.int .i64 l[j]))
  ib : ∀ n ∈ l, -9223372036854775808 ≤ n ∧ n ≤ 9223372036854775807
  cp : ∀ a n c, v = .slice a n c → n ≤ c
theorem Qu.Iv.keep {W W' : World} {v : Value} {l : List Int} (h : Qu.Iv W v l) (hb : Below W.heap.size W W') : Qu.Iv W' v l := by
  obtain ⟨⟨a, c, h1, h2⟩, h3, h5⟩ := h
  refine ⟨⟨a, c, h1, ?_⟩, h3, h5⟩
  rcases h2 with h2 | ⟨g, o, e, hg, h4⟩
  · exact .inl h2
  · exact .inr ⟨g, o, e, Nat.lt_of_lt_of_le hg hb.size, fun j hj => (hb.cell (p := ⟨g, o + j, none⟩) hg).trans (h4 j hj)⟩
theorem Tryz.laidOut : laidOutB Tryz.prog = true := by kernel_rfl
theorem Tryz.cellsInt : Tryz.prog.cellsOf 3 = 1 := by kernel_rfl
theorem Tryz.bytesInt : Tryz.prog.bytesOf 3 = 8 := by kernel_rfl
/-- The first of them. -/
theorem Qu.Iv.first {w : World} {a : Option Addr} {n c : Nat} {l : List Int} (h : Qu.Iv w (.slice a n c) l) {m : Nat} (hm : m ≤ l.length) : Qu.Iv w (.slice a m c) (l.take m) := by
  obtain ⟨⟨a', c', e, h2⟩, h3, h5⟩ := h
  injection e with e1 e2 e3
  subst e1 e2 e3
  have hc := h5 a l.length c rfl
  have hl : (l.take m).length = m := by rw [List.length_take]; omega
  refine ⟨⟨a, c, by rw [hl], ?_⟩, fun n hn => h3 n (List.mem_of_mem_take hn), fun a' n' c' e => by cases e; omega⟩
  rcases h2 with rfl | ⟨g, o, e, hg, h4⟩
  · exact .inl (by simp)
  · refine .inr ⟨g, o, e, hg, fun j hj => ?_⟩
    rw [h4 j (by omega)]
    simp
end Go.Proofs
namespace Go.Proofs
open Go.RowKit Go.ChangeShapes Go.WideShapes Go.Deep Go.Wi Go.Wb
theorem Tryz.cellsStrN : Tryz.prog.cellsOf 9 = 1 := by kernel_rfl
theorem Tryz.cellsBoolN : Tryz.prog.cellsOf 4 = 1 := by kernel_rfl
theorem Tryz.cellsPairN : Tryz.prog.cellsOf 52 = 2 := by kernel_rfl
theorem Tryz.cellsRowN : Tryz.prog.cellsOf 22 = 1 := by kernel_rfl
theorem Tryz.cellsAskN : Tryz.prog.cellsOf 24 = 5 := by kernel_rfl
theorem Tryz.bytesPairN : Tryz.prog.bytesOf 52 = 32 := by kernel_rfl
theorem Wb.weights_all {H : Type} {P : Program} {e : TypeId} : ∀ (ds : List (DataW H)) (d : DataW H), d ∈ ds → ∀ n ∈ d.weights P e, n ∈ DataW.weightsAll P e ds
  | [], _, h, _, _ => by cases h
  | c :: r, d, h, n, hn => by
    simp only [DataW.weightsAll, List.mem_append]
    rcases List.mem_cons.1 h with rfl | h
    · exact .inl hn
    · exact .inr (Wb.weights_all r d h n hn)
set_option maxRecDepth 20000 in
theorem Tryz.open_heads {H : Type} {enc : TypeId × Value → H} {W : World} {v : Value} {fuel : Nat} {x : DataW H × List MemPlace}
    (hf : DataW.trod enc Tryz.prog W 0 (fun _ => true) true fuel 22 [v] = some x) (hw : ∀ n ∈ x.1.weights Tryz.prog 22, n ≤ 140737488351232) : ∃ L : List (List UInt8 × List UInt8), Hs W v L ∧ L.length ≤ 4398046510976 ∧ ∀ h ∈ L, h.1.length ≤ 140737488351232 ∧ h.2.length ≤ 140737488351232 := by
  rcases open_slice Tryz.underlying22 hf with ⟨hcs, -⟩ | ⟨a, len', cap', m, n, D, Pl, hcs, _, hl, hm, hmm, hxx, hx⟩
  · obtain rfl : v = .slice none 0 0 := by simpa using hcs
    exact ⟨[], ⟨⟨none, 0, rfl, .inl rfl⟩, .inl rfl⟩, Nat.zero_le _, fun h hh => by cases hh⟩
  · obtain rfl : v = .slice (some a) len' cap' := by simpa using hcs
    have hm' : m = cap' := by simpa using hmm
    subst hm'
    obtain ⟨b, off, spot⟩ := a
    have each : ∀ i, i < m → ∃ p : List UInt8 × List UInt8, W.cell? ((⟨b, off, spot⟩ : Addr).add (i * 2)) = some (.string ⟨p.1.toArray⟩) ∧ W.cell? ((⟨b, off, spot⟩ : Addr).add (i * 2 + 1)) = some (.string ⟨p.2.toArray⟩) ∧ ((∀ n ∈ (D i).weights Tryz.prog 52, n ≤ 140737488351232) → p.1.length ≤ 140737488351232 ∧ p.2.length ≤ 140737488351232) := by
      intro i hi
      obtain ⟨cs', h1, h2⟩ := hx i hi
      rw [Tryz.cellsPairN] at h1
      obtain ⟨_, hlen, hcell⟩ := World.cells?_some h1
      obtain ⟨xs, k, hk, hxy, _, hxl, hfl⟩ := DataW.trod_array Tryz.underlying52 h2
      match xs, hxl, cs', hlen with
      | [y0, y1], _, [v0, v1], _ =>
        have g0 := hfl 0 (by omega)
        have g1 := hfl 1 (by omega)
        simp only [Tryz.cellsStrN] at g0 g1
        obtain ⟨s0, e0, d0, -⟩ := DataW.trod_string Tryz.underlying9 g0
        obtain ⟨s1, e1, d1, -⟩ := DataW.trod_string Tryz.underlying9 g1
        simp at e0 e1
        subst e0 e1
        have z0 := hcell 0 (by omega)
        have z1 := hcell 1 (by omega)
        rw [add_add] at z0 z1
        have hD : D i = .agg [y0.1, y1.1] := congrArg Prod.fst hxy
        refine ⟨(s0.data.toList, s1.data.toList), by simpa using z0, by simpa using z1, fun hwt => ⟨hwt s0.data.toList.length ?_, hwt s1.data.toList.length ?_⟩⟩
        · rw [hD, d0]
          simp only [DataW.weights, Tryz.underlying52, DataW.weightsAll]
          exact List.mem_append_left _ (List.mem_singleton.2 rfl)
        · rw [hD, d1]
          simp only [DataW.weights, Tryz.underlying52, DataW.weightsAll]
          exact List.mem_append_right _ (List.mem_append_left _ (List.mem_singleton.2 rfl))
    obtain ⟨q, hq⟩ := choose_lt each
    have hll : ((List.range len').map q).length = len' := by simp
    have hwD : ∀ i, i < len' → ∀ n ∈ (D i).weights Tryz.prog 52, n ≤ 140737488351232 := fun i hi n hn => hw n (by
      rw [hxx]
      simp only [DataW.weights, Tryz.underlying22]
      exact List.mem_cons_of_mem _ (List.mem_append_left _ (Wb.weights_all _ (D i) (List.mem_map.2 ⟨i, List.mem_range.2 hi, rfl⟩) n hn)))
    have hlw : (len' + (m - len')) * 32 ≤ 140737488351232 := hw _ (by
      rw [hxx]
      simp only [DataW.weights, Tryz.underlying22, Tryz.bytesPairN, List.length_map, List.length_range]
      exact List.mem_cons_self)
    refine ⟨(List.range len').map q, ⟨⟨some ⟨b, off, spot⟩, m, by rw [hll], ?_⟩, .inr ⟨_, _, _, rfl⟩⟩, by rw [hll]; omega, fun h hh => ?_⟩
    · by_cases h0 : len' = 0
      · subst h0; exact .inl rfl
      · have hc0 := (hq 0 (by omega)).1
        have hspot : spot = none := by simpa [Addr.add] using World.cell?_spot hc0
        subst hspot
        refine .inr ⟨b, off, rfl, World.block_lt_of_cell? _ _ (by simpa [Addr.add] using hc0), fun j hj => ?_⟩
        rw [hll] at hj
        have h1 := (hq j (by omega)).1
        have h2 := (hq j (by omega)).2.1
        rw [Addr.add_mid] at h1 h2
        rw [Nat.add_assoc, h1, h2]
        simp
    · obtain ⟨i, hi, rfl⟩ := List.mem_map.1 hh
      have hi' := List.mem_range.1 hi
      exact (hq i (by omega)).2.2 (hwD i hi')
set_option maxRecDepth 20000 in
theorem Tryz.open_ask {H : Type} {enc : TypeId × Value → H} {W : World} {r : Reach} {b0 : Nat} {v : Value} {d : DataW H} {ps : List MemPlace} (hval : Value.okWide Tryz.prog W r b0 24 v) (hd : DataW.Trod enc Tryz.prog W 0 (fun _ => true) true 24 v d ps) (hw : ∀ n ∈ d.weights Tryz.prog 24, n ≤ 140737488351232) :
    ∃ (m t b : ByteArray) (V : Value) (L : List (List UInt8 × List UInt8)) (l : Bool), v = .agg #[.string m, .string t, V, .string b, .bool l] ∧ Hs W V L ∧ b.size ≤ 140737488351232 ∧ L.length ≤ 4398046510976 ∧ ∀ h ∈ L, h.1.length ≤ 140737488351232 ∧ h.2.length ≤ 140737488351232 := by
  obtain ⟨cs, rfl, hsz⟩ := okWide_struct Tryz.underlying24 hval
  rw [Tryz.cellsAskN] at hsz
  obtain ⟨fuel, hf⟩ := hd
  obtain ⟨xs, k, hk, hxy, _, hxl, hfl⟩ := DataW.trod_struct Tryz.underlying24 hf
  obtain ⟨l⟩ := cs
  match xs, hxl, l, hsz with
  | [y0, y1, y2, y3, y4], _, [v0, v1, v2, v3, v4], _ =>
    have g0 := hfl 0 _ rfl
    have g1 := hfl 1 _ rfl
    have g2 := hfl 2 _ rfl
    have g3 := hfl 3 _ rfl
    have g4 := hfl 4 _ rfl
    simp only [List.getElem_toArray, List.getElem_cons_zero, List.getElem_cons_succ, Tryz.cellsStrN] at g0 g1 g3
    simp only [List.getElem_toArray, List.getElem_cons_zero, List.getElem_cons_succ, Tryz.cellsRowN] at g2
    simp only [List.getElem_toArray, List.getElem_cons_zero, List.getElem_cons_succ, Tryz.cellsBoolN] at g4
    obtain ⟨s0, e0, -⟩ := DataW.trod_string Tryz.underlying9 g0
    obtain ⟨s1, e1, -⟩ := DataW.trod_string Tryz.underlying9 g1
    obtain ⟨s3, e3, d3, -⟩ := DataW.trod_string Tryz.underlying9 g3
    obtain ⟨s4, e4, -⟩ := DataW.trod_bool Tryz.underlying4 g4
    simp [Value.cells] at e0 e1 e3 e4
    subst e0 e1 e3 e4
    have hD : d = .agg [y0.1, y1.1, y2.1, y3.1, y4.1] := congrArg Prod.fst hxy
    obtain ⟨L, hH, hL, hLL⟩ := Tryz.open_heads (v := v2) (x := y2) (by simpa [Value.cells] using g2) (fun n hn => hw n (by
      rw [hD]
      simp only [DataW.weights, Tryz.underlying24]
      exact DataW.weights_mem_each (j := 2) (t := 22) (d := y2.1) rfl rfl _ hn))
    have hb3 : s3.size ≤ 140737488351232 := hw _ (by
      rw [hD]
      simp only [DataW.weights, Tryz.underlying24]
      refine DataW.weights_mem_each (j := 3) (t := 9) (d := y3.1) rfl rfl _ ?_
      rw [d3]
      exact List.mem_singleton.2 rfl)
    exact ⟨s0, s1, s3, v2, L, s4, rfl, hH, hb3, hL, hLL⟩
end Go.Proofs
