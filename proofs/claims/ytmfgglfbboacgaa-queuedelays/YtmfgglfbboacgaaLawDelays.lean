/-
  QueueDelays: its walk.
-/
import Derived.Test.YtmfgglfbboacgaaQj
namespace Go.Proofs
open Go.RowKit Go.Wi Go.Qu
theorem Qu.failed_next (b m : Int) (j : Nat) (u now : Int) (hj : j < 1000) : ({ size := 3, base := b, most := m, l := [5, 6], f := (j : Int), u := u, d := 0 } : Qs Int).failed now = { size := 3, base := b, most := m, l := [5, 6], f := ((j + 1 : Nat) : Int), u := now + dl b m j, d := 0 } := by
  have e : one (j : Int) = ((j + 1 : Nat) : Int) := by unfold one; omega
  unfold Qs.failed
  simp only [e]
  congr 3
set_option maxHeartbeats 8000000 in
set_option maxRecDepth 20000 in
theorem Try.queueDelaysWalk (base most failures at' : Int) (w : World) (h1 : -9223372036854775808 ≤ base ∧ base ≤ 9223372036854775807) (h2 : -9223372036854775808 ≤ most ∧ most ≤ 9223372036854775807) (h3 : -9223372036854775808 ≤ failures ∧ failures ≤ 9223372036854775807) (h4 : -9223372036854775808 ≤ at' ∧ at' ≤ 9223372036854775807) :
    Calls Try.prog 4 #[.int .i64 base, .int .i64 most, .int .i64 failures, .int .i64 at'] w fun z w' => z = .returned (.bool true) ∧ Below w.heap.size w w' := by
  have hsh := Try.shown_any w
  obtain ⟨h1a, h1b⟩ := h1
  obtain ⟨h2a, h2b⟩ := h2
  obtain ⟨h3a, h3b⟩ := h3
  obtain ⟨h4a, h4b⟩ := h4
  go_enter Try.func4, Try.ntmps4
  go_upto_if 33 with (first
    | (go_at_call 7; refine hsh.mono ?_; clear hsh; rintro z w0 ⟨rfl, hb0⟩; have HB0 : Hid _ := hb0; clear hb0)
    | fail)
  go_cut [10] (fun v wx => ∃ N : Int, 0 ≤ N ∧ N ≤ 9223372036854775807 ∧ v = .int .i64 N ∧ w0 = wx)
  case first =>
    by_cases hc : base < 0
    all_goals
      go_wp2_with (fail)
      go_meet
      case rel => exact ⟨_, by omega, by omega, rfl, rfl⟩
  case rest =>
    obtain ⟨N1, n1a, n1b, rfl, rfl⟩ := hcut
    clear h1a h1b
    go_upto_if 42 with (fail)
    go_cut [11] (fun v wx => ∃ N : Int, 0 ≤ N ∧ N ≤ 9223372036854775807 ∧ v = .int .i64 N ∧ w0 = wx)
    case first =>
      by_cases hc : most < 0
      all_goals
        go_wp2_with (fail)
        go_meet
        case rel => exact ⟨_, by omega, by omega, rfl, rfl⟩
    case rest =>
      obtain ⟨N2, n2a, n2b, rfl, rfl⟩ := hcut
      clear h2a h2b
      go_upto_if 52 with (fail)
      go_cut [12] (fun v wx => ∃ N : Int, 0 ≤ N ∧ N ≤ 9223372036854775807 ∧ v = .int .i64 N ∧ w0 = wx)
      case first =>
        by_cases hc : failures < 0
        all_goals
          go_wp2_with (fail)
          go_meet
          case rel => exact ⟨_, by omega, by omega, rfl, rfl⟩
      case rest =>
        obtain ⟨N3, n3a, n3b, rfl, rfl⟩ := hcut
        clear h3a h3b
        go_upto_if 61 with (fail)
        go_cut [13] (fun v wx => ∃ N : Int, 0 ≤ N ∧ N ≤ 9223372036854775807 ∧ v = .int .i64 N ∧ w0 = wx)
        case first =>
          by_cases hc : at' < 0
          all_goals
            go_wp2_with (fail)
            go_meet
            case rel => exact ⟨_, by omega, by omega, rfl, rfl⟩
        case rest =>
          obtain ⟨N4, n4a, n4b, rfl, rfl⟩ := hcut
          clear h4a h4b
          go_upto_region 18 with (fail)
          obtain ⟨k, hk⟩ : ∃ k : Nat, N3 % 80 = (k : Int) := ⟨(N3 % 80).toNat, by omega⟩
          have hk2 : k < 80 := by omega
          rw [hk]
          clear hk n3a n3b
          have e1 : 1 ≤ 1 + N1 % 1000 := by omega
          have e2 : 1 + N1 % 1000 ≤ 1000 := by omega
          have e3 : 0 ≤ N2 % 100000 := by omega
          have e4 : N2 % 100000 ≤ 100000 := by omega
          have e5 : 0 ≤ N4 % 1000000 := by omega
          have e6 : N4 % 1000000 ≤ 1000000 := by omega
          generalize 1 + N1 % 1000 = bs at *
          have e7 : bs ≤ bs + N2 % 100000 := by omega
          have e8 : bs + N2 % 100000 ≤ 101000 := by omega
          generalize bs + N2 % 100000 = ms at *
          generalize N4 % 1000000 = nw at *
          clear n1a n1b n2a n2b n4a n4b e3 e4
          have hnew := Try.newI_f 3 bs ms (by omega) (by omega) e1 e7 (by omega) w0
          go_wp2_with (first
            | (go_at_call 8; refine hnew.mono ?_; clear hnew; rintro z w1 ⟨b, rfl, hB1, hb1⟩; have hp1 := Try.putRoomI_f hB1 5 (by simp); have HB1 : Hid _ := hb1; clear hB1 hb1)
            | (go_at_call 12; refine hp1.mono ?_; clear hp1; rintro z w2 ⟨rfl, hB2, hb2⟩; have hp2 := Try.putRoomI_f hB2 6 (by simp); have HB2 : Hid _ := hb2; clear hB2 hb2)
            | (go_at_call 12; refine hp2.mono ?_; clear hp2; rintro z w3 ⟨rfl, hB3, hb3⟩; have HQ3 : Hid (Try.QfI w0.heap.size w3 b ⟨3, bs, ms, [5, 6], 0, 0, 0⟩) := hB3; have HB3 : Hid _ := hb3; clear hB3 hb3)
            | fail)
          have HBA : Hid (Below w.heap.size w w3) := HB0.out.trans (((HB1.out.trans HB2.out).trans HB3.out).mono HB0.out.size)
          have HQA : Hid (Try.QfI w.heap.size w3 b ⟨3, bs, ms, [5, 6], 0, 0, 0⟩) := HQ3.out.floor HB0.out.size
          clear HB0 HB1 HB2 HB3 HQ3
          go_loopw [13, 16, 17] (fun nv dv iv wr => ∃ (j : Nat) (n u : Int), iv = .int .i64 (j + 1 : Nat) ∧ dv = .int .i64 (dl bs ms j) ∧ nv = .int .i64 n ∧ j ≤ k + 1 ∧ 0 ≤ n ∧ n ≤ 1000000 + 101000 * (j : Int) ∧ Try.QfI w.heap.size wr b ⟨3, bs, ms, [5, 6], j, u, 0⟩ ∧ Below w.heap.size w wr) (fun _ _ iv _ => k + 2 - (intOf iv).toNat)
          case atStart => exact ⟨0, nw, 0, rfl, rfl, rfl, by omega, e5, by omega, HQA.out, HBA.out⟩
          case round =>
            obtain ⟨j, n, u, rfl, rfl, rfl, hjk, hn0, hn1, hQ, hbel⟩ := hrel
            clear HBA HQA
            have d1 := dl_le e7 j
            have d2 := dl_ge e1 e7 j
            have dsuc : dl bs ms (j + 1) = min (2 * dl bs ms j) ms := rfl
            by_cases hj : j ≤ k
            · have hF := Try.failedYesI_f hQ (x := 5) (r := [6]) rfl n hn0 (by omega)
              rw [Qu.failed_next bs ms j u n (by omega)] at hF
              have HS : Hid _ := dsuc
              have HBEL : Hid _ := hbel
              have q1 : (j : Int) ≤ (k : Int) := by omega
              clear hQ hbel dsuc
              generalize dl bs ms j = D at *
              have q3 : n + D ≤ 100000000 := by omega
              by_cases hmin : 2 * D ≤ ms
              all_goals
                go_wp2_with (first
                  | (go_at_call 11; refine hF.mono ?_; clear hF; rintro z w4 ⟨rfl, hQ4, hb4⟩; have hh1 := Try.headNoI_f hQ4 (n + D - 1) (.inr (show n + D - 1 < n + D by omega)); have hh2 := Try.headYesI_f hQ4 (x := 5) (r := [6]) rfl (n + D) (Int.le_refl _); have hst := Try.stateI_f hQ4; have HB4 : Hid _ := hb4; clear hb4 hQ4)
                  | (go_at_call 9; refine hh1.mono ?_; clear hh1; rintro z w5 ⟨rfl, hw5⟩; rw [hw5]; clear hw5)
                  | (go_at_call 9; refine hh2.mono ?_; clear hh2; rintro z w5 ⟨rfl, hw5⟩; rw [hw5]; clear hw5)
                  | (go_at_call 13; refine hst.mono ?_; clear hst; rintro z w6 ⟨rfl, hQ6, hb6⟩; have HQ6 : Hid _ := hQ6; have HB6 : Hid _ := hb6; clear hQ6 hb6)
                  | fail)
                go_roundw
                case rel => exact ⟨j + 1, n + D, n + D, by go_num, by rw [HS.out]; congr 1; omega, rfl, by omega, by omega, by omega, HQ6.out, (HBEL.out.trans HB4.out).trans HB6.out⟩
                case measure => simp [intOf]; omega
            · have hD := Try.doneYesI_f hQ (x := 5) (r := [6]) rfl
              have HBEL : Hid _ := hbel
              have q1 : ¬ (j : Int) ≤ (k : Int) := by omega
              clear hQ hbel dsuc
              generalize dl bs ms j = D at *
              go_wp2_with (first
                | (go_at_call 10; refine hD.mono ?_; clear hD; rintro z w4 ⟨rfl, hQ4, hb4⟩; have hh1 := Try.headYesI_f hQ4 (x := 6) (r := []) rfl 0 (Int.le_refl _); have HB4 : Hid _ := hb4; clear hb4 hQ4)
                | (go_at_call 9; refine hh1.mono ?_; clear hh1; rintro z w5 ⟨rfl, hw5⟩; rw [hw5]; clear hw5)
                | fail)
              go_ret
              exact ⟨rfl, HBEL.out.trans HB4.out⟩
end Go.Proofs
