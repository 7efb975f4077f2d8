import Derived.Test.YtaigcmlalnegpaaDoorShown
import Derived.Test.YtaigcmlalnegpaaDoorRefEdges
namespace Go.Proofs
open Go.RowKit
theorem Tryd.refEdge_out (s : ByteArray) (a : Int) (ha : a < 0 ∨ (s.size : Int) < a) (_hs : s.size ≤ maxLen) (w : World) :
    Calls Tryd.prog 19 #[.string s, .int .i64 a] w fun e w' => e = .returned (.bool false) ∧ w' = w := by
  unfold maxLen at _hs
  by_cases h0 : a < 0
  · go_enter Tryd.func19, Tryd.ntmps19
    go_wp2_with fail
    go_ret
    exact ⟨rfl, rfl⟩
  · have h1 : (s.size : Int) < a := by omega
    clear ha
    go_enter Tryd.func19, Tryd.ntmps19
    go_wp2_with fail
    go_ret
    exact ⟨rfl, rfl⟩
theorem Tryd.refEdge_in (s : ByteArray) (a : Nat) (ha : a ≤ s.size) (hs : s.size ≤ 140737488355327) (w : World) :
    Calls Tryd.prog 19 #[.string s, .int .i64 a] w fun e w' => e = .returned (.bool (Sg.edgeN s a)) ∧ Below w.heap.size w w' := by
  have c1 := fun w => Tryd.refEdges_any s w hs
  have n1 : ¬ ((a : Int) < 0) := by omega
  have n2 : ¬ ((s.size : Int) < (a : Int)) := by omega
  have n3 : (a : Int) < (s.size : Int) + 1 := by omega
  have C1 : Hid _ := c1
  clear c1
  go_enter Tryd.func19, Tryd.ntmps19
  go_wp2_with fail
  refine (C1.out _).mono ?_
  rintro e w1 ⟨rfl, b1, r1⟩
  have c2 := r1.cell (i := a) (by omega)
  unfold Sg.markEnd at c2
  clear r1
  go_wp2
  go_ret
  exact ⟨rfl, b1⟩
theorem Tryd.refEdge_any (s : ByteArray) (a : Int) (hs : s.size ≤ 140737488355327) (w : World) :
    Calls Tryd.prog 19 #[.string s, .int .i64 a] w fun e w' => e = .returned (.bool (Sg.edgeB s a)) ∧ Below w.heap.size w w' := by
  unfold Sg.edgeB
  by_cases h : a < 0 ∨ (s.size : Int) < a
  · rw [if_pos h]
    exact (Tryd.refEdge_out s a h (by unfold maxLen; omega) w).mono fun e w' ⟨he, hw⟩ => ⟨he, by rw [hw]; exact Below.refl _ _⟩
  · rw [if_neg h]
    obtain ⟨n, rfl⟩ : ∃ n : Nat, a = n := ⟨a.toNat, by omega⟩
    exact Tryd.refEdge_in s n (by omega) hs w
theorem Tryd.signEdgesWalk (s : ByteArray) (hs : s.size ≤ 140737488351232) (a : Int) (_ha : -9223372036854775808 ≤ a ∧ a ≤ 9223372036854775807) (w : World) (hT : Tryd.Tabs w) :
    Calls Tryd.prog 8 #[.string s, .int .i64 a] w fun e w' => e = .returned (.bool true) ∧ Below w.heap.size w w' := by
  have c0 := fun w hT => Tryd.shown_any w hT
  have c1 := fun w hT => Tryd.edge_any s a (by unfold maxLen; omega) w hT
  have c2 := fun w => Tryd.refEdge_any s a (by omega) w
  generalize Sg.edgeB s a = b at c1 c2
  have C0 : Hid _ := c0
  have C1 : Hid _ := c1
  have C2 : Hid _ := c2
  clear c0 c1 c2
  go_enter Tryd.func8, Tryd.ntmps8
  go_wp2_with fail
  refine (C0.out _ hT).mono ?_
  rintro e w1 ⟨rfl, b1⟩
  go_wp2_with fail
  refine (C1.out _ (hT.below b1)).mono ?_
  rintro e w2 ⟨rfl, b2⟩
  go_wp2_with fail
  refine (C2.out _).mono ?_
  rintro e w3 ⟨rfl, b3⟩
  go_wp2_with fail
  go_ret
  exact ⟨Sg.ret_bool (by simp), (b1.trans (b2.mono b1.size)).trans (b3.mono (Nat.le_trans b1.size b2.size))⟩
end Go.Proofs
