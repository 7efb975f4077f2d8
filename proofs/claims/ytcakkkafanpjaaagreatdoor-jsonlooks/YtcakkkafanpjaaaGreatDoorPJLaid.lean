/-
  Laid together by packg.py of JLaid.
-/
import Derived.Test.YtcakkkafanpjaaaGreatDoorQaA
import Derived.Test.YtcakkkafanpjaaaGreatDoorRows
import Derived.Lib.LaidU8
import Derived.Lay
import Derived.OpenShut
namespace Go.Proofs
open Go.RowKit
namespace YtcakkkafanpjaaaGreatDoor
theorem jfirst_eq : Lib.firstData = Rows.laid_unicode_utf8_first := by kernel_rfl
theorem jaccept_eq : Lib.acceptData = (Rows.laid_unicode_utf8_acceptRanges : DataW Unit) := by kernel_rfl
theorem jpow_eq : (Lib.tabData .u64 Lib.pow10Tab : DataW Unit) = Rows.laid_internal_strconv_uint64pow10 := by kernel_rfl
theorem var_lt {W : World} {n : String} {g : Nat} {cs : Array Value} (hg : Tryz.prog.globalNamed n = some g) (h : W.var? Tryz.prog n = some cs) : g < W.heap.size := by
  simp only [World.var?, hg, Option.bind_some] at h
  split at h
  · rename_i c t fz hh
    exact (Array.getElem?_eq_some_iff.1 hh).1
  · cases h
theorem err_of {W : World} {n : String} {g : Nat} {d : DataW Unit} (hg : Tryz.prog.globalNamed n = some g) (hty : (Tryz.prog.globals[g]?).map (·.type) = some 51) (h : Lib.VarReads Tryz.prog W n (.iface "*errors.errorString" d)) : ∃ te pe, W.cell? ⟨g, 0, none⟩ = some (.iface te pe) := by
  obtain ⟨g', t, cs, fuel, p, hg', ht, hvar, hd⟩ := h
  obtain rfl := Option.some.inj (hg.symm.trans hg')
  obtain rfl := Option.some.inj (hty.symm.trans ht)
  obtain ⟨_, u, v, hcs, _, _⟩ := iface_of_trod Tryz.underlying51 hd
  refine ⟨u, v, ?_⟩
  have h0 := World.var?_cell hg hvar 0
  rw [h0, ← Array.getElem?_toList, hcs]
  rfl
theorem tb_of {W : World} {l : List (String × DataW Unit)} (h : laidMet Tryz.prog l W) (hF : ("unicode/utf8.first", Rows.laid_unicode_utf8_first) ∈ l) (hA : ("unicode/utf8.acceptRanges", Rows.laid_unicode_utf8_acceptRanges) ∈ l)
    (hP : ("internal/strconv.uint64pow10", Rows.laid_internal_strconv_uint64pow10) ∈ l) (hS : ("strconv.ErrSyntax", Rows.laid_strconv_ErrSyntax) ∈ l) (hR : ("strconv.ErrRange", Rows.laid_strconv_ErrRange) ∈ l) (hD : ("math/bits.deBruijn64tab", Rows.laid_math_bits_deBruijn64tab) ∈ l) : Tryz.Tb W := by
  have rF := Lib.laidMet.reads h hF
  have rA := Lib.laidMet.reads h hA
  have rP := Lib.laidMet.reads h hP
  have rS := Lib.laidMet.reads h hS
  have rR := Lib.laidMet.reads h hR
  have rD := Lib.laidMet.reads h hD
  rw [← jfirst_eq] at rF
  rw [← jaccept_eq] at rA
  rw [← jpow_eq] at rP
  have u8 : Lib.Utf8Tabs 0 1 W := utf8Tabs_of_reads (ρ := Tryz.lays260_ren) Tryz.lays260 ⟨by kernel_rfl, by kernel_rfl, by kernel_rfl, by kernel_rfl, by kernel_rfl, by kernel_rfl, by kernel_rfl⟩ rF rA
  have es := err_of (g := 4) (by kernel_rfl) (by kernel_rfl) rS
  have er := err_of (g := 5) (by kernel_rfl) (by kernel_rfl) rR
  have gP : Tryz.prog.globalNamed "internal/strconv.uint64pow10" = some 3 := by kernel_rfl
  have p10 : Lib.TabIs Tryz.prog W "internal/strconv.uint64pow10" .u64 Lib.pow10Tab := by
    obtain ⟨g, t, cs, fuel, p, hg, hty, hvar, hd⟩ := rP
    obtain rfl := Option.some.inj (gP.symm.trans hg)
    obtain rfl := Option.some.inj ((show (Tryz.prog.globals[3]?).map (·.type) = some 192 by kernel_rfl).symm.trans hty)
    unfold Lib.TabIs
    rw [hvar, ← Lib.cells_of_tab Tryz.underlying192 Tryz.underlying144 (by kernel_rfl) (by kernel_rfl) hd]
  have hsz : 8 ≤ W.heap.size := by
    obtain ⟨g, t, cs, fuel, p, hg, hty, hvar, hd⟩ := rD
    obtain rfl := Option.some.inj ((show Tryz.prog.globalNamed "math/bits.deBruijn64tab" = some 7 by kernel_rfl).symm.trans hg)
    exact var_lt hg hvar
  refine ⟨hsz, fun w' hw => ?_⟩
  have hc : ∀ g o, g < 8 → w'.cell? ⟨g, o, none⟩ = W.cell? ⟨g, o, none⟩ := fun g o hg => World.cell?_of_block (w := W) (hw g hg)
  refine ⟨⟨fun c hc' => (hc _ _ (by decide)).trans (u8.1 c hc'), fun i hi => ⟨(hc _ _ (by decide)).trans (u8.2 i hi).1, (hc _ _ (by decide)).trans (u8.2 i hi).2⟩⟩, ?_, ?_, ?_⟩
  · obtain ⟨te, pe, he⟩ := es
    exact ⟨te, pe, (hc _ _ (by decide)).trans he⟩
  · obtain ⟨te, pe, he⟩ := er
    exact ⟨te, pe, (hc _ _ (by decide)).trans he⟩
  · unfold Lib.TabIs at p10 ⊢
    rw [← p10]
    simp only [World.var?, gP, Option.bind_some, hw 3 (by decide)]
end YtcakkkafanpjaaaGreatDoor
end Go.Proofs
