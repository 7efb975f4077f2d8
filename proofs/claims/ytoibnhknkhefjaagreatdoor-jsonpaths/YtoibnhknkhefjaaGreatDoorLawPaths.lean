/-
  JsonPaths, walked.
-/
import Derived.Test.YtoibnhknkhefjaaGreatDoorJpp
namespace Go.Proofs
open Go.RowKit Go.Jv
set_option maxRecDepth 100000 in
set_option maxHeartbeats 4000000 in
theorem Tryz.jsonPathsWalk (s : ByteArray) (hs : s.size ≤ 140737488351232) (t : ByteArray) (ht : t.size ≤ 140737488351232) (w : World) (hT : Tryz.Tb w) :
    Calls Tryz.prog 3 #[.string s, .string t] w fun e w' => e = .returned (.bool true) ∧ Below w.heap.size w w' := by
  have ha := Tryz.awake_any w hT
  have hps := fun mk W hW => Tryz.paths_any s hs mk W hW
  have hpt := fun mk W hW => Tryz.paths_any t ht mk W hW
  have HT : Hid _ := hT
  clear hT hs ht
  go_enter Tryz.func3, Tryz.ntmps3
  go_wp2_with (first
    | (go_at_call 8; refine ha.mono ?_; clear ha; rintro e1 w1 ⟨rfl, hb1⟩; have hT1 := HT.out.below hb1 HT.out.size)
    | (go_at_call 9; refine (hps _ _ hT1).mono ?_; rintro e2 w2 ⟨r2, g2, rfl, x2, hb2⟩; have hT2 := hT1.below hb2 hT1.size; clear hT1)
    | (go_at_call 9; refine (hpt _ _ hT2).mono ?_; rintro e3 w3 ⟨r3, g3, rfl, x3, hb3⟩; have hT3 := hT2.below hb3 hT2.size; clear hT2; have y2 := x2.below hb3)
    | (go_at_call 9; refine (hps _ _ hT3).mono ?_; rintro e4 w4 ⟨r4, g4, rfl, x4, hb4⟩; clear hT3; have y3 := x3.below hb4; have yy2 := y2.below hb4)
    | (go_at_call 10; refine (Tryz.owned_any _ _ _ yy2).mono ?_; clear yy2; rintro e5 w5 ⟨rfl, rfl⟩)
    | (go_at_call 10; refine (Tryz.owned_any _ _ _ y3).mono ?_; clear y3; rintro e6 w6 ⟨rfl, rfl⟩)
    | (go_at_call 10; refine (Tryz.owned_any _ _ _ x4).mono ?_; clear x4; rintro e7 w7 ⟨rfl, rfl⟩)
    | fail)
  go_ret
  exact ⟨rfl, Jv.bthen0 (Jv.bthen0 (Jv.bthen0 hb1 hb2) hb3) hb4⟩
end Go.Proofs
