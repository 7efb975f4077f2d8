/-
  FEED: the laws' same; Fold of all there is.
-/
import Derived.Test.YtdhgpkacilcfgaaGreatDoorFdX
namespace Go.Proofs
open Go.RowKit Go.Wi Go.Fd Go.Sort
set_option maxRecDepth 20000 in
set_option maxHeartbeats 500000 in
theorem Tryz.fold_whole {w : World} {V : Value} {l : List Cn} (h : Cs w V l) (hV : ∀ k, V.ownBlock = some k → k < w.heap.size) (hl : l.length ≤ 4398046511104) :
    Calls Tryz.prog 9 #[.slice none 0 0, V, .slice none 0 0, .bool true] w fun e w' => ∃ V', e = .returned V' ∧ w'.ownsRow w.heap.size 39 3 V' (sheet l).length (cnCells (sheet l)) ∧ Below w.heap.size w w' := by
  have hs := Tryz.sheetOf_any h hV hl
  clear h hV hl
  go_enter Tryz.func9, Tryz.ntmps9
  go_wp2_with (first
    | (go_at_call 20; refine hs.mono ?_; clear hs; rintro e w1 ⟨V1, rfl, hr1, hb1⟩)
    | fail)
  go_ret
  exact ⟨V1, rfl, hr1, hb1⟩
end Go.Proofs
