/-
  Laid together by packg.py of WwP.
-/
import Derived.Test.YtogimcdjllhkcaaGreatDoorPvI
import Derived.Test.YtogimcdjllhkcaaGreatDoorPWLaid
import Derived.Deep.SlicePairs
import Derived.OpenShut
import Derived.SizedLaws
import Derived.Carry
namespace Go.Proofs
open Go.RowKit Go.ChangeShapes Go.WideShapes Go.Deep Go.Wi Go.Wb
theorem YtogimcdjllhkcaaGreatDoor.bulk_mem {H : Type} {d : DataW H} {l : List (DataW H)} (h : d ∈ l) : YtogimcdjllhkcaaGreatDoor.Rows.uptoBulk d ≤ YtogimcdjllhkcaaGreatDoor.Rows.uptoBulkAll l := by
  induction l with
  | nil => cases h
  | cons a r ih =>
    simp only [YtogimcdjllhkcaaGreatDoor.Rows.uptoBulkAll]
    rcases List.mem_cons.1 h with rfl | h
    · omega
    · have := ih h; omega
set_option maxRecDepth 20000 in
theorem Tryz.open_headsU {H : Type} {enc : TypeId × Value → H} {W : World} {v : Value} {fuel : Nat} {x : DataW H × List MemPlace}
    (hf : DataW.trod enc Tryz.prog W 0 (fun _ => true) true fuel 22 [v] = some x) {B : Nat} (hw : YtogimcdjllhkcaaGreatDoor.Rows.uptoBulk x.1 ≤ B) : ∃ L : List (List UInt8 × List UInt8), Hs W v L ∧ L.length ≤ B ∧ ∀ h ∈ L, h.1.length ≤ B ∧ h.2.length ≤ B := by
  rcases open_slice Tryz.underlying22 hf with ⟨hcs, -⟩ | ⟨a, len', cap', m, n, D, Pl, hcs, _, hl, hm, hmm, hxx, hx⟩
  · obtain rfl : v = .slice none 0 0 := by simpa using hcs
    exact ⟨[], ⟨⟨none, 0, rfl, .inl rfl⟩, .inl rfl⟩, Nat.zero_le _, fun h hh => by cases hh⟩
  · obtain rfl : v = .slice (some a) len' cap' := by simpa using hcs
    have hm' : m = cap' := by simpa using hmm
    subst hm'
    obtain ⟨b, off, spot⟩ := a
    have each : ∀ i, i < m → ∃ p : List UInt8 × List UInt8, W.cell? ((⟨b, off, spot⟩ : Addr).add (i * 2)) = some (.string ⟨p.1.toArray⟩) ∧ W.cell? ((⟨b, off, spot⟩ : Addr).add (i * 2 + 1)) = some (.string ⟨p.2.toArray⟩) ∧ (YtogimcdjllhkcaaGreatDoor.Rows.uptoBulk (D i) ≤ B → p.1.length ≤ B ∧ p.2.length ≤ B) := by
      intro i hi
      obtain ⟨cs', h1, h2⟩ := hx i hi
      rw [Tryz.cellsPairN] at h1
      obtain ⟨_, hlen, hcell⟩ := World.cells?_some h1
      obtain ⟨xs, k, hk, hxy, _, hxl, hfl⟩ := DataW.trod_array Tryz.underlying52 h2
      match xs, hxl, cs', hlen with
      | [y0, y1], _, [v0, v1], _ =>
        have g0 := hfl 0 (by omega)
        have g1 := hfl 1 (by omega)
        simp only [Tryz.cellsStrN] at g0 g1
        obtain ⟨s0, e0, d0, -⟩ := DataW.trod_string Tryz.underlying9 g0
        obtain ⟨s1, e1, d1, -⟩ := DataW.trod_string Tryz.underlying9 g1
        simp at e0 e1
        subst e0 e1
        have z0 := hcell 0 (by omega)
        have z1 := hcell 1 (by omega)
        rw [add_add] at z0 z1
        have hD : D i = .agg [y0.1, y1.1] := congrArg Prod.fst hxy
        refine ⟨(s0.data.toList, s1.data.toList), by simpa using z0, by simpa using z1, fun hwt => ?_⟩
        rw [hD, d0, d1] at hwt
        simp only [YtogimcdjllhkcaaGreatDoor.Rows.uptoBulk, YtogimcdjllhkcaaGreatDoor.Rows.uptoBulkAll] at hwt
        exact ⟨by show s0.data.toList.length ≤ B; omega, by show s1.data.toList.length ≤ B; omega⟩
    obtain ⟨q, hq⟩ := choose_lt each
    have hll : ((List.range len').map q).length = len' := by simp
    have hbk : YtogimcdjllhkcaaGreatDoor.Rows.uptoBulkAll ((List.range len').map D) ≤ B := by
      rw [hxx] at hw
      simp only [YtogimcdjllhkcaaGreatDoor.Rows.uptoBulk] at hw
      omega
    have hwD : ∀ i, i < len' → YtogimcdjllhkcaaGreatDoor.Rows.uptoBulk (D i) ≤ B := fun i hi => Nat.le_trans (YtogimcdjllhkcaaGreatDoor.bulk_mem (List.mem_map.2 ⟨i, List.mem_range.2 hi, rfl⟩)) hbk
    have hlw : len' ≤ B := by
      have := YtogimcdjllhkcaaGreatDoor.bulk_all ((List.range len').map D)
      rw [List.length_map, List.length_range] at this
      omega
    refine ⟨(List.range len').map q, ⟨⟨some ⟨b, off, spot⟩, m, by rw [hll], ?_⟩, .inr ⟨_, _, _, rfl⟩⟩, by rw [hll]; omega, fun h hh => ?_⟩
    · by_cases h0 : len' = 0
      · subst h0; exact .inl rfl
      · have hc0 := (hq 0 (by omega)).1
        have hspot : spot = none := by simpa [Addr.add] using World.cell?_spot hc0
        subst hspot
        refine .inr ⟨b, off, rfl, World.block_lt_of_cell? _ _ (by simpa [Addr.add] using hc0), fun j hj => ?_⟩
        rw [hll] at hj
        have h1 := (hq j (by omega)).1
        have h2 := (hq j (by omega)).2.1
        rw [Addr.add_mid] at h1 h2
        rw [Nat.add_assoc, h1, h2]
        simp
    · obtain ⟨i, hi, rfl⟩ := List.mem_map.1 hh
      have hi' := List.mem_range.1 hi
      exact (hq i (by omega)).2.2 (hwD i hi')
set_option maxRecDepth 20000 in
theorem Tryz.open_askU {H : Type} {enc : TypeId × Value → H} {W : World} {r : Reach} {b0 : Nat} {v : Value} {d : DataW H} {ps : List MemPlace} (hval : Value.okWide Tryz.prog W r b0 24 v) (hd : DataW.Trod enc Tryz.prog W 0 (fun _ => true) true 24 v d ps) {B : Nat} (hw : YtogimcdjllhkcaaGreatDoor.Rows.uptoBulk d ≤ B) :
    ∃ (m t b : ByteArray) (V : Value) (L : List (List UInt8 × List UInt8)) (l : Bool), v = .agg #[.string m, .string t, V, .string b, .bool l] ∧ Hs W V L ∧ m.size ≤ B ∧ t.size ≤ B ∧ b.size ≤ B ∧ L.length ≤ B ∧ ∀ h ∈ L, h.1.length ≤ B ∧ h.2.length ≤ B := by
  obtain ⟨cs, rfl, hsz⟩ := okWide_struct Tryz.underlying24 hval
  rw [Tryz.cellsAskN] at hsz
  obtain ⟨fuel, hf⟩ := hd
  obtain ⟨xs, k, hk, hxy, _, hxl, hfl⟩ := DataW.trod_struct Tryz.underlying24 hf
  obtain ⟨l⟩ := cs
  match xs, hxl, l, hsz with
  | [y0, y1, y2, y3, y4], _, [v0, v1, v2, v3, v4], _ =>
    have g0 := hfl 0 _ rfl
    have g1 := hfl 1 _ rfl
    have g2 := hfl 2 _ rfl
    have g3 := hfl 3 _ rfl
    have g4 := hfl 4 _ rfl
    simp only [List.getElem_toArray, List.getElem_cons_zero, List.getElem_cons_succ, Tryz.cellsStrN] at g0 g1 g3
    simp only [List.getElem_toArray, List.getElem_cons_zero, List.getElem_cons_succ, Tryz.cellsRowN] at g2
    simp only [List.getElem_toArray, List.getElem_cons_zero, List.getElem_cons_succ, Tryz.cellsBoolN] at g4
    obtain ⟨s0, e0, d0, -⟩ := DataW.trod_string Tryz.underlying9 g0
    obtain ⟨s1, e1, d1, -⟩ := DataW.trod_string Tryz.underlying9 g1
    obtain ⟨s3, e3, d3, -⟩ := DataW.trod_string Tryz.underlying9 g3
    obtain ⟨s4, e4, -⟩ := DataW.trod_bool Tryz.underlying4 g4
    simp [Value.cells] at e0 e1 e3 e4
    subst e0 e1 e3 e4
    have hD : d = .agg [y0.1, y1.1, y2.1, y3.1, y4.1] := congrArg Prod.fst hxy
    rw [hD] at hw
    simp only [YtogimcdjllhkcaaGreatDoor.Rows.uptoBulk, YtogimcdjllhkcaaGreatDoor.Rows.uptoBulkAll] at hw
    obtain ⟨L, hH, hL, hLL⟩ := Tryz.open_headsU (v := v2) (x := y2) (B := B) (by simpa [Value.cells] using g2) (by omega)
    rw [d0, d1, d3] at hw
    simp only [YtogimcdjllhkcaaGreatDoor.Rows.uptoBulk] at hw
    rw [← Lib.size_eq, ← Lib.size_eq, ← Lib.size_eq] at hw
    exact ⟨s0, s1, s3, v2, L, s4, rfl, hH, by omega, by omega, by omega, hL, hLL⟩
end Go.Proofs
