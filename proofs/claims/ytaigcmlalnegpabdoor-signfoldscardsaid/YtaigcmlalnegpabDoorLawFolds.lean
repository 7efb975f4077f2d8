import Derived.Test.YtaigcmlalnegpabDoorShown
import Derived.Test.YtaigcmlalnegpabDoorRefFold
namespace Go.Proofs
open Go.RowKit
theorem Tryd.signFoldsWalk (s : ByteArray) (hs : s.size ≤ 140737488351232) (w : World) (hT : Tryd.Tabs w) :
    Calls Tryd.prog 3 #[.string s] w fun e w' => e = .returned (.bool true) ∧ Below w.heap.size w w' := by
  have c0 := fun w hT => Tryd.shown_any w hT
  have c1 := fun w => Tryd.valid_any s w (by unfold maxLen; omega)
  have c2 := fun w => Tryd.refValid_any s w (by omega)
  have c3 := fun w hT => Tryd.fold_any s w (by omega) hT
  have c4 := fun w => Tryd.refFold_any s w (by omega)
  generalize Sg.valid s = b at c1 c2
  generalize Sg.fold s = f at c3 c4
  have C0 : Hid _ := c0
  have C1 : Hid _ := c1
  have C2 : Hid _ := c2
  have C3 : Hid _ := c3
  have C4 : Hid _ := c4
  clear c0 c1 c2 c3 c4
  go_enter Tryd.func3, Tryd.ntmps3
  go_wp2_with fail
  refine (C0.out _ hT).mono ?_
  rintro e w1 ⟨rfl, b1⟩
  have T1 := hT.below b1
  go_wp2_with fail
  refine (C1.out _).mono ?_
  rintro e w2 ⟨rfl, b2⟩
  have T2 := T1.below b2
  replace b2 := b1.trans (b2.mono b1.size)
  go_wp2_with fail
  refine (C2.out _).mono ?_
  rintro e w3 ⟨rfl, rfl⟩
  go_wp2_with fail
  refine (C3.out _ T2).mono ?_
  rintro e w4 ⟨rfl, b4⟩
  replace b4 := b2.trans (b4.mono b2.size)
  go_wp2_with fail
  refine (C4.out _).mono ?_
  rintro e w5 ⟨rfl, b5⟩
  replace b5 := b4.trans (b5.mono b4.size)
  go_wp2_with fail
  go_ret
  exact ⟨Sg.ret_bool (by simp), b5⟩
end Go.Proofs
