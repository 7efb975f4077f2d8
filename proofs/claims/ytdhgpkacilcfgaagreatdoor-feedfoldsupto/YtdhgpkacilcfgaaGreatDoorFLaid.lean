/-
  THE VARIABLES, out of what a row's cell 'laid' gives.
-/
import Derived.Test.YtdhgpkacilcfgaaGreatDoorFdO
import Derived.Test.YtdhgpkacilcfgaaGreatDoorRows
import Derived.Lib.LaidU8
import Derived.Lay
import Derived.OpenShut
namespace Go.Proofs
open Go.RowKit
namespace YtdhgpkacilcfgaaGreatDoor
theorem jpow_eq : (Lib.tabData .u64 Lib.pow10Tab : DataW Unit) = Rows.laid_internal_strconv_uint64pow10 := by kernel_rfl
theorem var_lt {W : World} {n : String} {g : Nat} {cs : Array Value} (hg : Tryz.prog.globalNamed n = some g) (h : W.var? Tryz.prog n = some cs) : g < W.heap.size := by
  simp only [World.var?, hg, Option.bind_some] at h
  split at h
  · rename_i c t fz hh
    exact (Array.getElem?_eq_some_iff.1 hh).1
  · cases h
theorem err_of {W : World} {n : String} {g : Nat} {d : DataW Unit} (hg : Tryz.prog.globalNamed n = some g) (hty : (Tryz.prog.globals[g]?).map (·.type) = some 84) (h : Lib.VarReads Tryz.prog W n (.iface "*errors.errorString" d)) : ∃ te pe, W.cell? ⟨g, 0, none⟩ = some (.iface te pe) := by
  obtain ⟨g', t, cs, fuel, p, hg', ht, hvar, hd⟩ := h
  obtain rfl := Option.some.inj (hg.symm.trans hg')
  obtain rfl := Option.some.inj (hty.symm.trans ht)
  obtain ⟨_, u, v, hcs, _, _⟩ := iface_of_trod Tryz.underlying84 hd
  refine ⟨u, v, ?_⟩
  have h0 := World.var?_cell hg hvar 0
  rw [h0, ← Array.getElem?_toList, hcs]
  rfl
theorem tb_of {W : World} {l : List (String × DataW Unit)} (h : laidMet Tryz.prog l W) 
    (hP : ("internal/strconv.uint64pow10", Rows.laid_internal_strconv_uint64pow10) ∈ l) (hS : ("strconv.ErrSyntax", Rows.laid_strconv_ErrSyntax) ∈ l) (hR : ("strconv.ErrRange", Rows.laid_strconv_ErrRange) ∈ l) (hD : ("math/bits.deBruijn64tab", Rows.laid_math_bits_deBruijn64tab) ∈ l) : Tryz.Tb W := by
  have rP := Lib.laidMet.reads h hP
  have rS := Lib.laidMet.reads h hS
  have rR := Lib.laidMet.reads h hR
  have rD := Lib.laidMet.reads h hD
  rw [← jpow_eq] at rP
  have es := err_of (g := 1) (by kernel_rfl) (by kernel_rfl) rS
  have er := err_of (g := 2) (by kernel_rfl) (by kernel_rfl) rR
  have gP : Tryz.prog.globalNamed "internal/strconv.uint64pow10" = some 0 := by kernel_rfl
  have p10 : Lib.TabIs Tryz.prog W "internal/strconv.uint64pow10" .u64 Lib.pow10Tab := by
    obtain ⟨g, t, cs, fuel, p, hg, hty, hvar, hd⟩ := rP
    obtain rfl := Option.some.inj (gP.symm.trans hg)
    obtain rfl := Option.some.inj ((show (Tryz.prog.globals[0]?).map (·.type) = some 125 by kernel_rfl).symm.trans hty)
    unfold Lib.TabIs
    rw [hvar, ← Lib.cells_of_tab Tryz.underlying125 Tryz.underlying98 (by kernel_rfl) (by kernel_rfl) hd]
  have hsz : 5 ≤ W.heap.size := by
    obtain ⟨g, t, cs, fuel, p, hg, hty, hvar, hd⟩ := rD
    obtain rfl := Option.some.inj ((show Tryz.prog.globalNamed "math/bits.deBruijn64tab" = some 4 by kernel_rfl).symm.trans hg)
    exact var_lt hg hvar
  refine ⟨hsz, fun w' hw => ?_⟩
  have hc : ∀ g o, g < 5 → w'.cell? ⟨g, o, none⟩ = W.cell? ⟨g, o, none⟩ := fun g o hg => World.cell?_of_block (w := W) (hw g hg)
  refine ⟨?_, ?_, ?_⟩
  · obtain ⟨te, pe, he⟩ := es
    exact ⟨te, pe, (hc _ _ (by decide)).trans he⟩
  · obtain ⟨te, pe, he⟩ := er
    exact ⟨te, pe, (hc _ _ (by decide)).trans he⟩
  · unfold Lib.TabIs at p10 ⊢
    rw [← p10]
    simp only [World.var?, gP, Option.bind_some, hw 0 (by decide)]
end YtdhgpkacilcfgaaGreatDoor
end Go.Proofs
