/-
  A []byte that came in (jsonval).
-/
import Derived.Test.YtelhjocmiamfiaaGreatDoorJz
import Derived.Deep.SlicePairs
import Derived.OpenShut
import Derived.SizedLaws
import Derived.Carry
import Derived.Shelf.Bytes.SlSmallAll
namespace Go.Proofs
open Go.RowKit Go.ChangeShapes Go.WideShapes Go.Deep Go.Jv
theorem Tryz.laidOut : laidOutB Tryz.prog = true := by kernel_rfl
theorem Tryz.cellsU8 : Tryz.prog.cellsOf 5 = 1 := by kernel_rfl
theorem Tryz.bytesU8 : Tryz.prog.bytesOf 5 = 1 := by kernel_rfl
/-- Bytes that lie somewhere. -/
structure Jv.By (w : World) (v : Value) (t : ByteArray) : Prop where
  ex : ∃ ad cap, v = .slice ad t.size cap ∧ (t = ⟨#[]⟩ ∨ ∃ g o, ad = some ⟨g, o, none⟩ ∧ g < w.heap.size ∧ ∀ j, j < t.size → w.cell? ⟨g, o + j, none⟩ = some (.int .u8 (t.data.toList.getD j 0).toNat))
theorem Jv.By.up {w w' : World} {v : Value} {t : ByteArray} (h : Jv.By w v t) (hb : Below w.heap.size w w') : Jv.By w' v t := by
  obtain ⟨ad, cap, h1, h2⟩ := h.ex
  refine ⟨ad, cap, h1, h2.imp id ?_⟩
  rintro ⟨g, o, e, hg, hc⟩
  exact ⟨g, o, e, Nat.lt_of_lt_of_le hg hb.size, fun j hj => (hb.cell (p := ⟨g, o + j, none⟩) hg).trans (hc j hj)⟩
set_option maxRecDepth 20000 in
theorem Tryz.conv_by {W : World} {ad : Option Addr} {cap : Nat} {t : ByteArray} (h : Jv.By W (.slice ad t.size cap) t) : (convert 22 9 (.slice ad t.size cap)).run Tryz.prog W = .ok (.string t) W := by
  obtain ⟨ad', cap', e, h1⟩ := h.ex
  injection e with e1 e2 e3
  subst e1
  rcases h1 with rfl | ⟨g, o, rfl, _, h2⟩
  · exact run_convert_bytes_zero (P := Tryz.prog) _ 22 5 Tryz.underlying22 Tryz.underlying5 ad cap 9 Tryz.underlying9
  · have := run_convert_bytes_back (P := Tryz.prog) W 22 9 5 ⟨g, o, none⟩ cap t.data.toList Tryz.underlying22 Tryz.underlying5 Tryz.underlying9 (fun j hj => by
      rw [Addr.add_mid, h2 j hj]
      simp only [List.getD_eq_getElem?_getD, List.getElem?_eq_getElem hj, Option.getD_some])
    simpa using this
theorem Tryz.open_by {H : Type} {enc : TypeId × Value → H} {W : World} {a0 : Option Addr} {len cap fuel : Nat} {x : DataW H × List MemPlace}
    (hf : DataW.trod enc Tryz.prog W 0 (fun _ => true) true fuel 22 [.slice a0 len cap] = some x) : ∃ t : ByteArray, Jv.By W (.slice a0 len cap) t ∧ (t.size = 0 ∨ ∃ el sp, x.1 = .slice el sp ∧ el.length = t.size) := by
  rcases open_slice Tryz.underlying22 hf with ⟨hcs, -⟩ | ⟨a, len', cap', m, n, D, Pl, hcs, _, hl, hm, hmm, hxx, hx⟩
  · simp at hcs
    obtain ⟨rfl, rfl, rfl⟩ := hcs
    exact ⟨⟨#[]⟩, ⟨none, 0, rfl, .inl rfl⟩, .inl rfl⟩
  · simp at hcs
    obtain ⟨rfl, rfl, rfl⟩ := hcs
    have hm' : m = cap := by simpa using hmm
    subst hm'
    obtain ⟨b, off, spot⟩ := a
    have each : ∀ i, i < m → ∃ c : UInt8, W.cell? ((⟨b, off, spot⟩ : Addr).add i) = some (.int .u8 (c.toNat : Nat)) := by
      intro i hi
      obtain ⟨cs', h1, h2⟩ := hx i hi
      rw [Tryz.cellsU8, Nat.mul_one] at h1
      obtain ⟨_, hlen, hcell⟩ := World.cells?_some h1
      obtain ⟨n0, e0, -, b0⟩ := DataW.trod_int Tryz.underlying5 h2
      have d0 := hcell 0 (by omega)
      rw [add_add] at d0
      have hb0 := bounds_u8 b0
      refine ⟨UInt8.ofNat n0.toNat, ?_⟩
      rw [UInt8.toNat_ofNat', Nat.mod_eq_of_lt (by omega)]
      have : ((n0.toNat : Nat) : Int) = n0 := by omega
      rw [this]
      subst e0
      simpa using d0
    obtain ⟨q, hq⟩ := choose_lt each
    have hll : (⟨((List.range len).map q).toArray⟩ : ByteArray).size = len := by simp [ByteArray.size]
    refine ⟨⟨((List.range len).map q).toArray⟩, ⟨some ⟨b, off, spot⟩, m, by rw [hll], ?_⟩, .inr ⟨_, _, by rw [hxx], by rw [hll]; simp⟩⟩
    by_cases h0 : len = 0
    · subst h0; exact .inl rfl
    · have hc0 := hq 0 (by omega)
      have hspot : spot = none := by simpa [Addr.add] using World.cell?_spot hc0
      subst hspot
      refine .inr ⟨b, off, rfl, World.block_lt_of_cell? _ _ (by simpa [Addr.add] using hc0), fun j hj => ?_⟩
      rw [hll] at hj
      have h1 := hq j (by omega)
      rw [Addr.add_mid] at h1
      rw [h1]
      simp [List.getD_eq_getElem?_getD, hj]
end Go.Proofs
