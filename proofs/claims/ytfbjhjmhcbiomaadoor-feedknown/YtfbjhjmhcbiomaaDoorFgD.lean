/-
  FEED: texts collected.
-/
import Derived.Test.YtfbjhjmhcbiomaaDoorFgC
import Derived.Shelf.SlIter.Collect
namespace Go.Proofs
open Go.RowKit Go.Wi Go.Fd Go.Sort Go.Maps
def Tryd.laysZ_ren : Go.Shelf.Ren := ⟨fun | 11 => 50 | n => n, fun | 24 => 30 | 26 => 9 | 28 => 61 | 33 => 47 | n => n, fun | n => n⟩
theorem Tryd.laysZ11 : SlLaysZ.n11 Tryd.prog Tryd.laysZ_ren := {
  mixed := by kernel_rfl
  f11 := ⟨"slices.AppendSeq[[]string,string]", by decide, by kernel_rfl⟩
  t0 := Tryd.underlying0
  a0 := Tryd.isAgg0
  z0 := Tryd.sizeOf0
  v0 := Tryd.zeroValue0
  t24 := Tryd.underlying30
  a24 := Tryd.isAgg30
  z24 := Tryd.sizeOf30
  v24 := Tryd.zeroValue30
  t26 := Tryd.underlying9
  a26 := Tryd.isAgg9
  z26 := Tryd.sizeOf9
  v26 := Tryd.zeroValue9
  t28 := Tryd.underlying61
  a28 := Tryd.isAgg61
  z28 := Tryd.sizeOf61
  v28 := Tryd.zeroValue61
  i26 := Tryd.infoStr }
end Go.Proofs
