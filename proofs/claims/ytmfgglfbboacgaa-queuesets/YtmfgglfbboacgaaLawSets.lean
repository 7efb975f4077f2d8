/-
  QueueSets: its walk.
-/
import Derived.Test.YtmfgglfbboacgaaQi
import Derived.Test.YtmfgglfbboacgaaQf
namespace Go.Proofs
open Go.RowKit Go.Wi Go.Qu
def Qu.tX : ByteArray := ⟨#[120]⟩
def Qu.tY : ByteArray := ⟨#[121]⟩
theorem Try.setYesS_f {B : Nat} {w : World} {b : Nat} {s : Qs ByteArray} (h : Try.QfS B w b s) (f u d : Int) (h1 : 0 ≤ f) (h2 : f ≤ 1000000000) (h3 : 0 ≤ u) (h4 : u ≤ 2000000000) (h5 : 0 ≤ d) (h6 : d ≤ 1000000000) :
    Calls Try.prog 16 #[.pointer (some ⟨b, 0, none⟩), .int .i64 f, .int .i64 u, .int .i64 d] w fun e w' => e = .returned (.int .i64 0) ∧ Try.QfS B w' b { s with f := f, u := u, d := d } ∧ Below B w w' := by
  obtain ⟨g, a2, a3, a4⟩ := h
  exact (Try.setYesS a2 f u d h1 h2 h3 h4 h5 h6).mono fun z w' ⟨a5, a6⟩ => ⟨a5, a6.floor a3 a4⟩
set_option maxHeartbeats 4000000 in
set_option maxRecDepth 20000 in
theorem Try.queueSetsWalk (f u d now : Int) (w : World) (_hf : -9223372036854775808 ≤ f ∧ f ≤ 9223372036854775807) (_hu : -9223372036854775808 ≤ u ∧ u ≤ 9223372036854775807) (_hd : -9223372036854775808 ≤ d ∧ d ≤ 9223372036854775807) (_hn : -9223372036854775808 ≤ now ∧ now ≤ 9223372036854775807) :
    Calls Try.prog 5 #[.int .i64 f, .int .i64 u, .int .i64 d, .int .i64 now] w fun z w' => z = .returned (.bool true) ∧ Below w.heap.size w w' := by
  have hsh := Try.shown_any w
  have hnew := fun W => Try.newS_f 2 7 70 (by omega) (by omega) (by omega) (by omega) (by omega) W
  have e1 : Qu.tX.toList = [120] := by kernel_rfl
  clear _hf _hu _hd _hn
  by_cases hm : 0 ≤ f ∧ f ≤ 1000000000 ∧ 0 ≤ u ∧ u ≤ 2000000000 ∧ 0 ≤ d ∧ d ≤ 1000000000
  · obtain ⟨a1, a2, a3, a4, a5, a6⟩ := hm
    by_cases hnu : u ≤ now
    all_goals
      go_enter Try.func5, Try.ntmps5
      go_wp2_with (first
        | (go_at_call 7; refine hsh.mono ?_; clear hsh; rintro z w0 ⟨rfl, hb0⟩; have HB0 : Hid _ := hb0; clear hb0)
        | (go_at_call 14; refine (hnew _).mono ?_; clear hnew; rintro z w1 ⟨b, rfl, hB1, hb1⟩; have hp1 := Try.putRoomS_f hB1 Qu.tX (by decide); have HB1 : Hid _ := hb1; clear hB1 hb1)
        | (go_at_call 15; refine hp1.mono ?_; clear hp1; rintro z w2 ⟨rfl, hB2, hb2⟩; have hse := Try.setYesS_f hB2 f u d a1 a2 a3 a4 a5 a6; have HB2 : Hid _ := hb2; clear hB2 hb2)
        | (go_at_call 16; refine hse.mono ?_; clear hse; rintro z w3 ⟨rfl, hB3, hb3⟩; have hst : Calls Try.prog 17 #[.pointer (some ⟨b, 0, none⟩)] w3 (fun e w' => e = .returned (.tuple #[.int .i64 1, .int .i64 f, .int .i64 u, .int .i64 d]) ∧ Try.QfS w0.heap.size w' b ⟨2, 7, 70, [Qu.tX], f, u, d⟩ ∧ Below w0.heap.size w3 w') := Try.stateS_f hB3; have HB3 : Hid _ := hb3; clear hB3 hb3)
        | (go_at_call 17; refine hst.mono ?_; clear hst; rintro z w4 ⟨rfl, hB4, hb4⟩; have hp2 := Try.putRoomS_f hB4 Qu.tY (by show ((1 : Nat) : Int) < 2; omega); have HB4 : Hid _ := hb4; clear hB4 hb4)
        | (go_at_call 15; refine hp2.mono ?_; clear hp2; rintro z w5 ⟨rfl, hB5, hb5⟩; (first | (have hhe := Try.headYesS_f hB5 (x := Qu.tX) (r := [Qu.tY]) rfl now hnu) | (have hhe := Try.headNoS_f hB5 now (.inr (show now < u by omega)))); have HQ5 : Hid _ := hB5; have HB5 : Hid _ := hb5; clear hB5 hb5)
        | (go_at_call 18; refine hhe.mono ?_; clear hhe; rintro z w6 ⟨rfl, hw6⟩; rw [hw6]; clear hw6; have hst2 : Calls Try.prog 17 #[.pointer (some ⟨b, 0, none⟩)] w5 (fun e w' => e = .returned (.tuple #[.int .i64 2, .int .i64 f, .int .i64 u, .int .i64 d]) ∧ Try.QfS w0.heap.size w' b ⟨2, 7, 70, [Qu.tX, Qu.tY], f, u, d⟩ ∧ Below w0.heap.size w5 w') := Try.stateS_f HQ5.out)
        | (go_at_call 17; refine hst2.mono ?_; clear hst2; rintro z w7 ⟨rfl, hB7, hb7⟩; have HB7 : Hid _ := hb7; clear hB7 hb7)
        | fail)
      go_ret
      refine ⟨?_, HB0.out.trans ((((((HB1.out.trans HB2.out).trans HB3.out).trans HB4.out).trans HB5.out).trans HB7.out).mono HB0.out.size)⟩
      show Ending.returned (Value.bool _) = Ending.returned (Value.bool true)
      congr 2
      all_goals (rw [decide_eq_false (by omega)]; rfl)
  · have hse := fun W b => Try.setNoS W b f u d hm
    have hq : (¬ 0 ≤ f) ∨ (0 ≤ f ∧ ¬ 0 ≤ u) ∨ (0 ≤ f ∧ 0 ≤ u ∧ ¬ 0 ≤ d) ∨ (0 ≤ f ∧ 0 ≤ u ∧ 0 ≤ d ∧ ¬ f ≤ 1000000000) ∨ (0 ≤ f ∧ 0 ≤ u ∧ 0 ≤ d ∧ f ≤ 1000000000 ∧ ¬ d ≤ 1000000000) ∨ (0 ≤ f ∧ 0 ≤ u ∧ 0 ≤ d ∧ f ≤ 1000000000 ∧ d ≤ 1000000000 ∧ ¬ u ≤ 2000000000) := by omega
    clear hm
    have b6 : ¬ u ≤ 2000000000 → decide (u ≤ 2000000000) = false := fun h => decide_eq_false h
    rcases hq with a1 | ⟨a1, a2⟩ | ⟨a1, a2, a3⟩ | ⟨a1, a2, a3, a4⟩ | ⟨a1, a2, a3, a4, a5⟩ | ⟨a1, a2, a3, a4, a5, a6⟩
    all_goals
      first | (have b7 := b6 a6) | skip
      clear b6
      go_enter Try.func5, Try.ntmps5
      go_wp2_with (first
        | (go_at_call 7; refine hsh.mono ?_; clear hsh; rintro z w0 ⟨rfl, hb0⟩; have HB0 : Hid _ := hb0; clear hb0)
        | (go_at_call 14; refine (hnew _).mono ?_; clear hnew; rintro z w1 ⟨b, rfl, hB1, hb1⟩; have hp1 := Try.putRoomS_f hB1 Qu.tX (by decide); have HB1 : Hid _ := hb1; clear hB1 hb1)
        | (go_at_call 15; refine hp1.mono ?_; clear hp1; rintro z w2 ⟨rfl, hB2, hb2⟩; have HQ2 : Hid _ := hB2; have HB2 : Hid _ := hb2; clear hB2 hb2)
        | (go_at_call 16; refine (hse _ _).mono ?_; clear hse; rintro z w3 ⟨rfl, hw3⟩; rw [hw3]; clear hw3; have hst : Calls Try.prog 17 #[.pointer (some ⟨b, 0, none⟩)] w2 (fun e w' => e = .returned (.tuple #[.int .i64 1, .int .i64 0, .int .i64 0, .int .i64 0]) ∧ Try.QfS w0.heap.size w' b ⟨2, 7, 70, [Qu.tX], 0, 0, 0⟩ ∧ Below w0.heap.size w2 w') := Try.stateS_f HQ2.out)
        | (go_at_call 17; refine hst.mono ?_; clear hst; rintro z w4 ⟨rfl, hB4, hb4⟩; have HB4 : Hid _ := hb4; clear hB4 hb4)
        | fail)
      go_ret
      exact ⟨rfl, HB0.out.trans (((HB1.out.trans HB2.out).trans HB4.out).mono HB0.out.size)⟩
end Go.Proofs
