/-
  FEED: texts collected.
-/
import Derived.Test.YtdhgpkacilcfgaaGreatDoorFgC
import Derived.Shelf.SlIter.Collect
namespace Go.Proofs
open Go.RowKit Go.Wi Go.Fd Go.Sort Go.Maps
def Tryz.laysZ_ren : Go.Shelf.Ren := ⟨fun | 11 => 56 | n => n, fun | 24 => 27 | 26 => 9 | 28 => 64 | 33 => 50 | n => n, fun | n => n⟩
theorem Tryz.laysZ11 : SlLaysZ.n11 Tryz.prog Tryz.laysZ_ren := {
  mixed := by kernel_rfl
  f11 := ⟨"slices.AppendSeq[[]string,string]", by decide, by kernel_rfl⟩
  t0 := Tryz.underlying0
  a0 := Tryz.isAgg0
  z0 := Tryz.sizeOf0
  v0 := Tryz.zeroValue0
  t24 := Tryz.underlying27
  a24 := Tryz.isAgg27
  z24 := Tryz.sizeOf27
  v24 := Tryz.zeroValue27
  t26 := Tryz.underlying9
  a26 := Tryz.isAgg9
  z26 := Tryz.sizeOf9
  v26 := Tryz.zeroValue9
  t28 := Tryz.underlying64
  a28 := Tryz.isAgg64
  z28 := Tryz.sizeOf64
  v28 := Tryz.zeroValue64
  i26 := Tryz.infoStr }
end Go.Proofs
