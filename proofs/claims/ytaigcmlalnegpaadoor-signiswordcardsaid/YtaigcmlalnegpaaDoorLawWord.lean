import Derived.Test.YtaigcmlalnegpaaDoorShown
import Derived.Test.YtaigcmlalnegpaaDoorRefWord
namespace Go.Proofs
open Go.RowKit
theorem Tryd.signIsWordWalk (r : Int) (hr : -2147483648 ≤ r ∧ r ≤ 2147483647) (w : World) (hT : Tryd.Tabs w) :
    Calls Tryd.prog 6 #[.int .i32 r] w fun e w' => e = .returned (.bool true) ∧ Below w.heap.size w w' := by
  have c1 := fun w => Tryd.isWord_any r w
  have c2 := fun w => Tryd.refWord_any r w hr.1 hr.2
  have c0 := fun w hT => Tryd.shown_any w hT
  generalize Sg.wordB r = b at c1 c2
  have C0 : Hid _ := c0
  have C1 : Hid _ := c1
  have C2 : Hid _ := c2
  clear c0 c1 c2
  go_enter Tryd.func6, Tryd.ntmps6
  go_wp2_with fail
  refine (C0.out _ hT).mono ?_
  rintro e w1 ⟨rfl, b1⟩
  go_wp2_with fail
  refine (C1.out _).mono ?_
  rintro e w2 ⟨rfl, rfl⟩
  go_wp2_with fail
  refine (C2.out _).mono ?_
  rintro e w3 ⟨rfl, rfl⟩
  go_wp2_with fail
  go_ret
  exact ⟨Sg.ret_bool (by simp), b1⟩
end Go.Proofs
