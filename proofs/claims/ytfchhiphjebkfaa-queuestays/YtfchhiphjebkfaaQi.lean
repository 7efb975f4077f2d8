/-
  shown.
-/
import Derived.Test.YtfchhiphjebkfaaQhS
namespace Go.Proofs
open Go.RowKit Go.Wi Go.Qu
def Qu.tA : ByteArray := ⟨#[97]⟩
def Qu.tB : ByteArray := ⟨#[98]⟩
def Qu.tC : ByteArray := ⟨#[99]⟩
def Qu.sh4 : Qs ByteArray := ⟨2, 3, 10, [Qu.tB, Qu.tC], 1, 8, 1⟩
set_option maxHeartbeats 1000000 in
set_option maxRecDepth 20000 in
theorem Try.shown_any (w : World) : Calls Try.prog 7 #[] w fun z w' => z = .returned (.bool true) ∧ Below w.heap.size w w' := by
  have hnew := Try.newS_f 2 3 10 (by omega) (by omega) (by omega) (by omega) (by omega) w
  have e1 : Qu.tA.toList = [97] := by kernel_rfl
  have e2 : Qu.tB.toList = [98] := by kernel_rfl
  go_enter Try.func7, Try.ntmps7
  go_wp2_with (first
    | (go_at_call 14; refine hnew.mono ?_; clear hnew; rintro z w1 ⟨b, rfl, hB1, hb1⟩; have hp1 := Try.putRoomS_f hB1 Qu.tA (by decide); have HB1 : Hid _ := hb1; clear hB1 hb1)
    | (go_at_call 15; refine hp1.mono ?_; clear hp1; rintro z w2 ⟨rfl, hB2, hb2⟩; have hp2 := Try.putRoomS_f hB2 Qu.tB (by decide); have HB2 : Hid _ := hb2; clear hB2 hb2)
    | (go_at_call 15; refine hp2.mono ?_; clear hp2; rintro z w3 ⟨rfl, hB3, hb3⟩; have hp3 := Try.putFullS_f hB3 Qu.tC (y := Qu.tA) (r := [Qu.tB]) rfl (by decide); have HB3 : Hid _ := hb3; clear hB3 hb3)
    | (go_at_call 15; refine hp3.mono ?_; clear hp3; rintro z w4 ⟨rfl, hB4, hb4⟩; have hf5 := Try.failedYesS_f hB4 (x := Qu.tB) (r := [Qu.tC]) rfl 5 (by omega) (by omega); have HB4 : Hid _ := hb4; clear hB4 hb4)
    | (go_at_call 20; refine hf5.mono ?_; clear hf5; rintro z w5 ⟨rfl, hB5, hb5⟩; have HB5 : Hid _ := hb5; have hB5' : Try.QfS w.heap.size w5 b Qu.sh4 := hB5; have hh1 := Try.headNoS_f hB5' 7 (.inr (by decide)); have hh2 := Try.headYesS_f hB5' (x := Qu.tB) (r := [Qu.tC]) rfl 8 (by decide); have hst : Calls Try.prog 17 #[.pointer (some ⟨b, 0, none⟩)] w5 (fun e w' => e = .returned (.tuple #[.int .i64 2, .int .i64 1, .int .i64 8, .int .i64 1]) ∧ Try.QfS w.heap.size w' b Qu.sh4 ∧ Below w.heap.size w5 w') := Try.stateS_f hB5'; clear hB5 hb5 hB5')
    | (go_at_call 18; refine hh1.mono ?_; clear hh1; rintro z w6 ⟨rfl, hw6⟩; rw [hw6]; clear hw6)
    | (go_at_call 18; refine hh2.mono ?_; clear hh2; rintro z w6 ⟨rfl, hw6⟩; rw [hw6]; clear hw6)
    | (go_at_call 17; refine hst.mono ?_; clear hst; rintro z w7 ⟨rfl, hB7, hb7⟩; have HB7 : Hid _ := hb7; clear hB7 hb7)
    | fail)
  go_ret
  exact ⟨rfl, (((((HB1.out.trans HB2.out).trans HB3.out).trans HB4.out).trans HB5.out).trans HB7.out)⟩
end Go.Proofs
