/-
  A []byte, a []Thing that came in.
-/
import Derived.Test.YtghpbagmpgphfaaVl
import Derived.Deep.SlicePairs
import Derived.OpenShut
import Derived.SizedLaws
import Derived.Carry
namespace Go.Proofs
open Go.RowKit Go.ChangeShapes Go.WideShapes Go.Deep Go.Wi
theorem Try.laidOut : laidOutB Try.prog = true := by kernel_rfl
theorem Try.cellsU8 : Try.prog.cellsOf 5 = 1 := by kernel_rfl
theorem Try.bytesU8 : Try.prog.bytesOf 5 = 1 := by kernel_rfl
theorem Try.open_bytes {H : Type} {enc : TypeId × Value → H} {W : World} {a0 : Option Addr} {len cap fuel : Nat} {x : DataW H × List MemPlace}
    (hf : DataW.trod enc Try.prog W 0 (fun _ => true) true fuel 22 [.slice a0 len cap] = some x) : ∃ l : List UInt8, Bs W (.slice a0 len cap) l ∧ (l = [] ∨ ∃ el sp, x.1 = .slice el sp ∧ el.length = l.length) := by
  rcases open_slice Try.underlying22 hf with ⟨hcs, -⟩ | ⟨a, len', cap', m, n, D, Pl, hcs, _, hl, hm, hmm, hxx, hx⟩
  · simp at hcs
    obtain ⟨rfl, rfl, rfl⟩ := hcs
    exact ⟨[], ⟨none, 0, rfl, Nat.le_refl _, fun _ => rfl, .inl rfl⟩, .inl rfl⟩
  · simp at hcs
    obtain ⟨rfl, rfl, rfl⟩ := hcs
    have hm' : m = cap := by simpa using hmm
    subst hm'
    obtain ⟨b, off, spot⟩ := a
    have each : ∀ i, i < m → ∃ c : UInt8, W.cell? ((⟨b, off, spot⟩ : Addr).add i) = some (.int .u8 (c.toNat : Nat)) := by
      intro i hi
      obtain ⟨cs', h1, h2⟩ := hx i hi
      rw [Try.cellsU8, Nat.mul_one] at h1
      obtain ⟨_, hlen, hcell⟩ := World.cells?_some h1
      obtain ⟨n0, e0, -, b0⟩ := DataW.trod_int Try.underlying5 h2
      have d0 := hcell 0 (by omega)
      rw [add_add] at d0
      have hb0 := bounds_u8 b0
      refine ⟨UInt8.ofNat n0.toNat, ?_⟩
      rw [UInt8.toNat_ofNat', Nat.mod_eq_of_lt (by omega)]
      have : ((n0.toNat : Nat) : Int) = n0 := by omega
      rw [this]
      subst e0
      simpa using d0
    obtain ⟨q, hq⟩ := choose_lt each
    have hll : ((List.range len).map q).length = len := by simp
    refine ⟨(List.range len).map q, ⟨some ⟨b, off, spot⟩, m, by rw [hll], by rw [hll]; exact hl, (fun e => by cases e), ?_⟩, .inr ⟨_, _, by rw [hxx], by simp⟩⟩
    by_cases h0 : len = 0
    · subst h0; exact .inl rfl
    · have hc0 := hq 0 (by omega)
      have hspot : spot = none := by simpa [Addr.add] using World.cell?_spot hc0
      subst hspot
      refine .inr ⟨b, off, rfl, World.block_lt_of_cell? _ _ (by simpa [Addr.add] using hc0), fun j u hu => ?_⟩
      have hj : j < len := by have := (List.getElem?_eq_some_iff.1 hu).1; rwa [byteCells_len, hll] at this
      rw [byteCell (by rw [hll]; exact hj)] at hu
      have h1 := hq j (by omega)
      rw [Addr.add_mid] at h1
      rw [h1, ← hu]
      simp
end Go.Proofs
