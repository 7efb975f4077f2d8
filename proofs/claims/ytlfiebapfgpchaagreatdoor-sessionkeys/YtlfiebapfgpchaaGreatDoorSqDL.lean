/-
  Laid together by merge.py of DLaid.
-/
import Derived.Test.YtlfiebapfgpchaaGreatDoorSqIb
import Derived.Test.YtlfiebapfgpchaaGreatDoorRows
import Derived.Lib.LaidU8
import Derived.Lib.LaidTab
import Derived.Lay
import Derived.OpenShut
namespace Go.Proofs
open Go.RowKit Go.Dg
namespace YtlfiebapfgpchaaGreatDoor
theorem dsq_eq : (Lib.tabData .u32 (Dg.start.l.map fun (n : Nat) => (n : Int)) : DataW Unit) = Rows.laid_tocsin_digest_squareRoots := by kernel_rfl
theorem dcu_eq : (Lib.tabData .u32 (Dg.rounds.map fun (n : Nat) => (n : Int)) : DataW Unit) = Rows.laid_tocsin_digest_cubeRoots := by kernel_rfl
theorem dvar {W : World} {n : String} {g : Nat} {cs : Array Value} (hg : Tryz.prog.globalNamed n = some g) (h : W.var? Tryz.prog n = some cs) : g < W.heap.size := by
  simp only [World.var?, hg, Option.bind_some] at h
  split at h
  · rename_i c t fz hh
    exact (Array.getElem?_eq_some_iff.1 hh).1
  · cases h
theorem tq_of {W : World} {l : List (String × DataW Unit)} (h : laidMet Tryz.prog l W) (hS : ("tocsin/digest.squareRoots", Rows.laid_tocsin_digest_squareRoots) ∈ l) (hC : ("tocsin/digest.cubeRoots", Rows.laid_tocsin_digest_cubeRoots) ∈ l) : Tryz.Tq W := by
  have rS := Lib.laidMet.reads h hS
  have rC := Lib.laidMet.reads h hC
  rw [← dsq_eq] at rS
  rw [← dcu_eq] at rC
  obtain ⟨g, t, cs, fuel, p, hg, hty, hvar, hd⟩ := rS
  obtain rfl := Option.some.inj ((show Tryz.prog.globalNamed "tocsin/digest.squareRoots" = some 0 by kernel_rfl).symm.trans hg)
  obtain rfl := Option.some.inj ((show (Tryz.prog.globals[0]?).map (·.type) = some 157 by kernel_rfl).symm.trans hty)
  have e1 := Lib.cells_of_tab Tryz.underlying157 Tryz.underlying156 (by kernel_rfl) (by kernel_rfl) hd
  obtain ⟨g2, t2, cs2, fuel2, p2, hg2, hty2, hvar2, hd2⟩ := rC
  obtain rfl := Option.some.inj ((show Tryz.prog.globalNamed "tocsin/digest.cubeRoots" = some 1 by kernel_rfl).symm.trans hg2)
  obtain rfl := Option.some.inj ((show (Tryz.prog.globals[1]?).map (·.type) = some 183 by kernel_rfl).symm.trans hty2)
  have e2 := Lib.cells_of_tab Tryz.underlying183 Tryz.underlying156 (by kernel_rfl) (by kernel_rfl) hd2
  have h1 := dvar hg hvar
  have h2 := dvar hg2 hvar2
  refine ⟨by omega, fun i hi => ?_, fun i hi => ?_⟩
  · rw [World.var?_cell hg hvar i, ← Array.getElem?_toList, e1, List.map_map, List.getElem?_map, List.getElem?_eq_getElem (show i < Dg.start.l.length from hi)]
    rfl
  · rw [World.var?_cell hg2 hvar2 i, ← Array.getElem?_toList, e2, List.map_map, List.getElem?_map, List.getElem?_eq_getElem (show i < Dg.rounds.length from hi)]
    rfl
end YtlfiebapfgpchaaGreatDoor
end Go.Proofs
