/-
  Laid together by packg.py of WLaid.
-/
import Derived.Test.YtjiidkkmnlcpcaaGreatDoorPaZ
import Derived.Test.YtjiidkkmnlcpcaaGreatDoorRows
import Derived.Lib.LaidU8
import Derived.Lib.LaidTab
import Derived.Lay
import Derived.OpenShut
namespace Go.Proofs
open Go.RowKit
namespace YtjiidkkmnlcpcaaGreatDoor
theorem tens_eq : (Lib.tabData .u64 Lib.pow10Tab : DataW Unit) = Rows.laid_internal_strconv_uint64pow10 := by kernel_rfl
theorem tab_of {W : World} {l : List (String × DataW Unit)} (h : laidMet Tryz.prog l W) (hS : ("internal/strconv.uint64pow10", Rows.laid_internal_strconv_uint64pow10) ∈ l) : Lib.TabIs Tryz.prog W "internal/strconv.uint64pow10" .u64 Lib.pow10Tab := by
  have rS := Lib.laidMet.reads h hS
  rw [← tens_eq] at rS
  obtain ⟨g, t, cs, fuel, p, hg, hty, hvar, hd⟩ := rS
  obtain rfl := Option.some.inj ((show Tryz.prog.globalNamed "internal/strconv.uint64pow10" = some 0 by kernel_rfl).symm.trans hg)
  obtain rfl := Option.some.inj ((show (Tryz.prog.globals[0]?).map (·.type) = some 147 by kernel_rfl).symm.trans hty)
  have e1 := Lib.cells_of_tab Tryz.underlying147 Tryz.underlying138 (by kernel_rfl) (by kernel_rfl) hd
  unfold Lib.TabIs
  rw [hvar, ← e1]
end YtjiidkkmnlcpcaaGreatDoor
end Go.Proofs
