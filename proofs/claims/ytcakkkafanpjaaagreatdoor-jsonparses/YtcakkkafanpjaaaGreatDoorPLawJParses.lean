/-
  Laid together by packg.py of LawJParses.
-/
import Derived.Test.YtcakkkafanpjaaaGreatDoorQaY
namespace Go.Proofs
open Go.RowKit Go.Jv
set_option maxRecDepth 100000 in
set_option maxHeartbeats 4000000 in
theorem Tryz.jsonParsesWalk (bv : Value) (t : ByteArray) (w : World) (hB : Jv.By w bv t) (hs : t.size ≤ 140737488351232) (hT : Tryz.Tb w) :
    Calls Tryz.prog 3 #[bv] w fun e w' => e = .returned (.bool true) ∧ Below w.heap.size w w' := by
  have ha := Tryz.awake_any w hT
  have hr := fun W (hW : Below w.heap.size w W) => Tryz.read_any bv t W (hB.up hW) hs (hT.below hW hT.size)
  clear hB hT
  go_enter Tryz.func3, Tryz.ntmps3
  go_wp2_with (first
    | (go_at_call 8; refine ha.mono ?_; clear ha; rintro e1 w1 ⟨rfl, hb1⟩; have h1 := hr w1 hb1; have HB1 : Hid (Below w.heap.size w w1) := hb1; clear hr hb1)
    | (go_at_call 9; refine h1.mono ?_; clear h1; rintro e2 w2 h2
       obtain ⟨p1, p2, rfl, hb2⟩ : ∃ p1 p2, e2 = .returned (.tuple #[.pointer p1, .pointer p2, .bool true]) ∧ Below w1.heap.size w1 w2 := by
         obtain ⟨hb, h3⟩ := h2
         rcases h3 with ⟨p, e, -, h4⟩ | ⟨v, x, y, -, h4, -⟩
         · exact ⟨_, _, h4, hb⟩
         · exact ⟨_, _, h4, hb⟩
       have HB2 : Hid (Below w1.heap.size w1 w2) := hb2
       clear h2 hb2)
    | fail)
  go_ret
  exact ⟨rfl, HB1.out.trans (HB2.out.mono HB1.out.size)⟩
end Go.Proofs
