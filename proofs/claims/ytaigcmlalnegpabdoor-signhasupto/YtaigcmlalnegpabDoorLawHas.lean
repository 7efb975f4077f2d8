import Derived.Test.YtaigcmlalnegpabDoorShown
import Derived.Test.YtaigcmlalnegpabDoorRefHas
namespace Go.Proofs
open Go.RowKit
theorem Tryd.signHasWalk (text : ByteArray) (h1 : text.size ≤ 1048576) (part : ByteArray) (h2 : part.size ≤ 1048576) (w : World) (hT : Tryd.Tabs w) :
    Calls Tryd.prog 4 #[.string text, .string part] w fun e w' => e = .returned (.bool true) ∧ Below w.heap.size w w' := by
  have c0 := fun w hT => Tryd.shown_any w hT
  have c1 := fun w hT => Tryd.has_any text part w hT (by omega) (by omega)
  have c2 := fun w => Tryd.refHas_any text part w (by omega) (by omega)
  generalize Sg.hasB text part = b at c1 c2
  have C0 : Hid _ := c0
  have C1 : Hid _ := c1
  have C2 : Hid _ := c2
  clear c0 c1 c2
  go_enter Tryd.func4, Tryd.ntmps4
  go_wp2_with fail
  refine (C0.out _ hT).mono ?_
  rintro e w1 ⟨rfl, b1⟩
  have T1 := hT.below b1
  go_wp2_with fail
  refine (C1.out _ T1).mono ?_
  rintro e w2 ⟨rfl, b2⟩
  replace b2 := b1.trans (b2.mono b1.size)
  go_wp2_with fail
  refine (C2.out _).mono ?_
  rintro e w3 ⟨rfl, b3⟩
  replace b3 := b2.trans (b3.mono b2.size)
  go_wp2_with fail
  go_ret
  exact ⟨Sg.ret_bool (by simp), b3⟩
end Go.Proofs
