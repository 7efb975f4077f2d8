/-
  THE PACKAGE-LEVEL VARIABLES that jsonval's road reads, and that they stay.
-/
import Derived.Test.YtejibjeidklnkaaGreatDoorProg
import Derived.Test.YtejibjeidklnkaaGreatDoorJw
import Derived.Lib.AppendIntMem
import Derived.Shelf.Unicode.DecodeSlow
namespace Go.Proofs
open Go.RowKit Go.Jv
/-- The variables hold what their initialisers lay. -/
structure Tryz.Tabs0 (w : World) : Prop where
  u8 : Lib.Utf8Tabs 0 1 w
  es : ∃ te pe, w.cell? ⟨3, 0, none⟩ = some (.iface te pe)
  er : ∃ te pe, w.cell? ⟨4, 0, none⟩ = some (.iface te pe)
  p10 : Lib.TabIs Tryz.prog w "internal/strconv.uint64pow10" .u64 Lib.pow10Tab
/-- So it is, whatever becomes of the blocks behind the variables'. -/
structure Tryz.Tb (w : World) : Prop where
  size : 8 ≤ w.heap.size
  all : ∀ w' : World, (∀ k, k < 8 → w'.heap[k]? = w.heap[k]?) → Tryz.Tabs0 w'
theorem Tryz.Tb.here {w : World} (h : Tryz.Tb w) : Tryz.Tabs0 w := h.all w fun _ _ => rfl
theorem Tryz.Tb.wk {w w' : World} {b : Nat} (h : Tryz.Tb w) (g : Wk b w w') (hb : 8 ≤ b) : Tryz.Tb w' :=
  ⟨Nat.le_trans h.size g.size, fun w2 h2 => h.all w2 fun k hk => (h2 k hk).trans (g.block k (Nat.lt_of_lt_of_le hk h.size) (by omega))⟩
theorem Tryz.Tb.below {w w' : World} {B : Nat} (h : Tryz.Tb w) (g : Below B w w') (hB : 8 ≤ B) : Tryz.Tb w' :=
  ⟨Nat.le_trans h.size g.size, fun w2 h2 => h.all w2 fun k hk => (h2 k hk).trans (g.block k (Nat.lt_of_lt_of_le hk hB))⟩
theorem Tryz.Tb.drewN {w : World} (h : Tryz.Tb w) (n : Nat) : Tryz.Tb (w.drewN n) := ⟨h.size, h.all⟩
theorem Tryz.Tb.p10 {w : World} (h : Tryz.Tb w) {B : Nat} (hB : 8 ≤ B) : Lib.TabBelow Tryz.prog B w "internal/strconv.uint64pow10" .u64 Lib.pow10Tab :=
  fun _ g => (h.all _ fun k hk => g.block k (Nat.lt_of_lt_of_le hk hB)).p10
end Go.Proofs
