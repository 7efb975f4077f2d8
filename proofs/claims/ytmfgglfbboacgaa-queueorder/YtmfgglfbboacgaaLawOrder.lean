/-
  QueueOrder: its walk.
-/
import Derived.Test.YtmfgglfbboacgaaQj
import Derived.Test.YtmfgglfbboacgaaQIn
namespace Go.Qu
/-- n numbers behind G. -/
def rng (G : Int) (n : Nat) : List Int := (List.range n).map fun (j : Nat) => G + 1 + (j : Int)
theorem rng_len (G : Int) (n : Nat) : (rng G n).length = n := by simp [rng]
theorem rng_nil (G : Int) : rng G 0 = [] := rfl
theorem rng_cons (G : Int) (n : Nat) : rng G (n + 1) = (G + 1) :: rng (G + 1) n := by
  unfold rng
  rw [List.range_succ_eq_map, List.map_cons, List.map_map]
  congr 1
  · simp
  · refine List.map_congr_left fun j _ => ?_
    simp only [Function.comp]
    omega
theorem rng_app (G : Int) (n : Nat) : rng G (n + 1) = rng G n ++ [G + 1 + n] := by
  unfold rng
  rw [List.range_succ, List.map_append]
  rfl
end Go.Qu
namespace Go.Proofs
open Go.RowKit Go.Wi Go.Qu
/-- What a round of the law finds. -/
structure Try.Or (B : Nat) (W : World) (wr : World) (b : Nat) (N D P G : Int) : Prop where
  ex : ∃ (n : Nat) (f u d : Int), P = G + n ∧ (n : Int) ≤ N ∧ 0 ≤ G ∧ u ≤ 2000000 ∧ Try.QfI B wr b ⟨N, D, 1000, rng G n, f, u, d⟩
  bel : Below B W wr
set_option maxHeartbeats 16000000 in
set_option maxRecDepth 20000 in
theorem Try.queueOrderWalk (size base : Int) (v : Value) (l : List Int) (w : World) (h1 : -9223372036854775808 ≤ size ∧ size ≤ 9223372036854775807) (h2 : -9223372036854775808 ≤ base ∧ base ≤ 9223372036854775807) (hI : Qu.Iv w v l) (hlen : l.length ≤ 140737488351232) :
    Calls Try.prog 3 #[.int .i64 size, .int .i64 base, v] w fun z w' => z = .returned (.bool true) ∧ Below w.heap.size w w' := by
  have HLEN : Hid _ := hlen
  clear hlen
  have hsh := Try.shown_any w
  obtain ⟨h1a, h1b⟩ := h1
  obtain ⟨h2a, h2b⟩ := h2
  obtain ⟨⟨ad, cap, rfl, hIv⟩, _⟩ := hI
  have HIV : Hid (l = [] ∨ ∃ g o, ad = some ⟨g, o, none⟩ ∧ g < w.heap.size ∧ ∀ j (hj : j < l.length), w.cell? ⟨g, o + j, none⟩ = some (.int .i64 l[j])) := hIv
  clear hIv
  go_enter Try.func3, Try.ntmps3
  go_upto_if 28 with (first
    | (go_at_call 7; refine hsh.mono ?_; clear hsh; rintro z w0 ⟨rfl, hb0⟩; have HB0 : Hid _ := hb0; clear hb0)
    | fail)
  go_cut [8] (fun v wx => ∃ N : Int, 0 ≤ N ∧ N ≤ 9223372036854775807 ∧ v = .int .i64 N ∧ w0 = wx)
  case first =>
    by_cases hc : size < 0
    all_goals
      go_wp2_with (fail)
      go_meet
      case rel => exact ⟨_, by omega, by omega, rfl, rfl⟩
  case rest =>
    obtain ⟨N1, n1a, n1b, rfl, rfl⟩ := hcut
    clear h1a h1b
    go_upto_if 37 with (fail)
    go_cut [9] (fun v wx => ∃ N : Int, 0 ≤ N ∧ N ≤ 9223372036854775807 ∧ v = .int .i64 N ∧ w0 = wx)
    case first =>
      by_cases hc : base < 0
      all_goals
        go_wp2_with (fail)
        go_meet
        case rel => exact ⟨_, by omega, by omega, rfl, rfl⟩
    case rest =>
      obtain ⟨N2, n2a, n2b, rfl, rfl⟩ := hcut
      clear h2a h2b
      go_upto_region 10 with (fail)
      have k1 : (99999 : Int) < 100000 := by omega
      have k2 : (100000 : Int) < 100001 := by omega
      generalize (100000 : Int) = K at *
      have HK : Hid _ := k1
      have e1 : 1 ≤ 1 + N1 % 1000 := by omega
      have e2 : 1 + N1 % 1000 ≤ 1000 := by omega
      have e3 : 1 ≤ 1 + N2 % 1000 := by omega
      have e4 : 1 + N2 % 1000 ≤ 1000 := by omega
      generalize 1 + N1 % 1000 = N at *
      generalize 1 + N2 % 1000 = D at *
      clear n1a n1b n2a n2b
      have hnew := Try.newI_f N D 1000 e1 e2 e3 e4 (by omega) w0
      go_wp2_with (first
        | (go_at_call 8; refine hnew.mono ?_; clear hnew; rintro z w1 ⟨b, rfl, hB1, hb1⟩; have HQ1 : Hid _ := hB1; have HB1 : Hid _ := hb1; clear hB1 hb1)
        | fail)
      have HST : Hid (Try.Or w.heap.size w w1 b N D 0 0) := ⟨⟨0, 0, 0, 0, by omega, by omega, by omega, by omega, HQ1.out.floor HB0.out.size⟩, HB0.out.trans (HB1.out.mono HB0.out.size)⟩
      clear HQ1 HB1
      go_loopw [12, 13, 14] (fun pv gv iv wr => ∃ (i : Nat) (P G : Int), iv = .int .i64 i ∧ pv = .int .i64 P ∧ gv = .int .i64 G ∧ i ≤ l.length ∧ i ≤ 100000 ∧ P ≤ i ∧ G ≤ P ∧ 0 ≤ G ∧ Try.Or w.heap.size w wr b N D P G) (fun _ _ iv _ => 100000 - (intOf iv).toNat)
      case atStart => exact ⟨0, 0, 0, rfl, rfl, rfl, by omega, by omega, by omega, by omega, by omega, HST.out⟩
      case round =>
        obtain ⟨i, P, G, rfl, rfl, rfl, hil, hi1, hPi, hGP, hG0, hO⟩ := hrel
        clear HST
        by_cases hi : i < l.length ∧ i < 100000
        · obtain ⟨hi2, hi3⟩ := hi
          rcases HIV.out with h0 | ⟨g0, o, rfl, hg0, hcells⟩
          · rw [h0] at hi2; simp at hi2
          · have hc0 := (hO.bel.cell (p := ⟨g0, o + i, none⟩) hg0).trans (hcells i hi2)
            generalize l[i] = sv at *
            have q1 : (i : Int) < (l.length : Int) := by omega
            have q2 : (i : Int) < K := by have := HK.out; omega
            have HI : Hid (i < l.length ∧ i < 100000) := ⟨hi2, hi3⟩
            have hi0 : (0 : Int) ≤ (i : Int) := by omega
            clear hcells HIV hi2 hi3 hil hi1 hg0
            obtain ⟨⟨n, f, u, d, hP, hnN, _, hu, hQ⟩, hbel⟩ := hO
            have HBEL : Hid (Below w.heap.size w wr) := hbel
            have HP : Hid (P = G + (n : Int)) := hP
            have hin := hQ.inn
            have HIN : Hid _ := hin
            clear hbel hin
            by_cases hs : sv < 0
            · by_cases hn : n = 0
              · subst hn
                have hh := Try.headNoI_f hQ 1000000000 (.inl rfl)
                have hd := Try.doneNoI_f hQ rfl
                have hst := Try.stateI_f hQ
                simp only [rng_len] at hst
                have hPG : P = G := by omega
                subst hPG
                have HU : Hid _ := hu
                clear hQ hP hu
                go_wp2_with (first
                  | (go_at_call 9; refine hh.mono ?_; clear hh; rintro z w4 ⟨rfl, hw4⟩; rw [hw4]; clear hw4)
                  | (go_at_call 10; refine hd.mono ?_; clear hd; rintro z w4 ⟨rfl, hw4⟩; rw [hw4]; clear hw4)
                  | (go_at_call 13; refine hst.mono ?_; clear hst; rintro z w6 ⟨rfl, hQ6, hb6⟩; have HQ6 : Hid _ := hQ6; have HB6 : Hid _ := hb6; clear hQ6 hb6)
                  | fail)
                go_roundw
                case rel => exact ⟨i + 1, P, P, by go_num, rfl, rfl, by have := HI.out.1; omega, by have := HI.out.2; omega, by omega, by omega, by omega, ⟨⟨0, f, u, d, by omega, by omega, by omega, HU.out, HQ6.out⟩, HBEL.out.trans HB6.out⟩⟩
                case measure => simp [intOf]; have := HI.out.2; omega
              · obtain ⟨m, rfl⟩ : ∃ m, n = m + 1 := ⟨n - 1, by omega⟩
                have hh := Try.headYesI_f hQ (rng_cons G m) 1000000000 (show u ≤ 1000000000 by omega)
                have hd := Try.doneYesI_f hQ (rng_cons G m)
                have hm : ((m : Nat) : Int) = P - (G + 1) := by omega
                have HM : Hid _ := hm
                have q3 : G < P := by omega
                have q4 : P - (G + 1) ≤ N := by omega
                clear hQ hP hu hm
                go_wp2_with (first
                  | (go_at_call 9; refine hh.mono ?_; clear hh; rintro z w4 ⟨rfl, hw4⟩; rw [hw4]; clear hw4)
                  | (go_at_call 10; refine hd.mono ?_; clear hd; rintro z w4 ⟨rfl, hQ4, hb4⟩; have hst := Try.stateI_f hQ4; simp only [rng_len] at hst; rw [HM.out] at hst; have HB4 : Hid _ := hb4; clear hQ4 hb4)
                  | (go_at_call 13; refine hst.mono ?_; clear hst; rintro z w6 ⟨rfl, hQ6, hb6⟩; have HQ6 : Hid _ := hQ6; have HB6 : Hid _ := hb6; clear hQ6 hb6)
                  | fail)
                go_roundw
                case rel => exact ⟨i + 1, P, G + 1, by go_num, rfl, rfl, by have := HI.out.1; omega, by have := HI.out.2; omega, by omega, by omega, by omega, ⟨⟨m, 0, 0, d, by have := HM.out; omega, by have := HM.out; omega, by omega, by omega, HQ6.out⟩, (HBEL.out.trans HB4.out).trans HB6.out⟩⟩
                case measure => simp [intOf]; have := HI.out.2; omega
            · by_cases hz : sv = 0
              · subst hz
                by_cases hn : n = 0
                · subst hn
                  have hf := Try.failedNoI_f hQ rfl ((i : Int) % 1000000)
                  have hst := Try.stateI_f hQ
                  simp only [rng_len] at hst
                  have hPG : P = G := by omega
                  subst hPG
                  have HU : Hid _ := hu
                  clear hQ hP hu
                  go_wp2_with (first
                    | (go_at_call 11; refine hf.mono ?_; clear hf; rintro z w4 ⟨rfl, hw4⟩; rw [hw4]; clear hw4)
                    | (go_at_call 13; refine hst.mono ?_; clear hst; rintro z w6 ⟨rfl, hQ6, hb6⟩; have HQ6 : Hid _ := hQ6; have HB6 : Hid _ := hb6; clear hQ6 hb6)
                    | fail)
                  go_roundw
                  case rel => exact ⟨i + 1, P, P, by go_num, rfl, rfl, by have := HI.out.1; omega, by have := HI.out.2; omega, by omega, by omega, by omega, ⟨⟨0, f, u, d, by omega, by omega, by omega, HU.out, HQ6.out⟩, HBEL.out.trans HB6.out⟩⟩
                  case measure => simp [intOf]; have := HI.out.2; omega
                · obtain ⟨m, rfl⟩ : ∃ m, n = m + 1 := ⟨n - 1, by omega⟩
                  have hf := Try.failedYesI_f hQ (rng_cons G m) ((i : Int) % 1000000) (by omega) (by omega)
                  have hm : ((m + 1 : Nat) : Int) = P - G := by omega
                  have HM : Hid _ := hm
                  have q3 : G < P := by omega
                  have q4 : P - G ≤ N := by omega
                  have hdl := dl_le (base := D) (most := 1000) (by omega) ((one f).toNat - 1)
                  have HDL : Hid _ := hdl
                  clear hQ hP hu hm hdl
                  go_wp2_with (first
                    | (go_at_call 11; refine hf.mono ?_; clear hf; rintro z w4 ⟨rfl, hQ4, hb4⟩; have hst := Try.stateI_f hQ4; simp only [Qs.failed, rng_len] at hst; rw [HM.out] at hst; have HB4 : Hid _ := hb4; clear hQ4 hb4)
                    | (go_at_call 13; refine hst.mono ?_; clear hst; rintro z w6 ⟨rfl, hQ6, hb6⟩; have HQ6 : Hid _ := hQ6; have HB6 : Hid _ := hb6; clear hQ6 hb6)
                    | fail)
                  go_roundw
                  case rel => exact ⟨i + 1, P, G, by go_num, rfl, rfl, by have := HI.out.1; omega, by have := HI.out.2; omega, by omega, by omega, by omega, ⟨⟨m + 1, one f, _, d, by have := HM.out; omega, by have := HM.out; omega, by omega, by have := HDL.out; omega, HQ6.out⟩, (HBEL.out.trans HB4.out).trans HB6.out⟩⟩
                  case measure => simp [intOf]; have := HI.out.2; omega
              · have q5 : (sv == 0) = false := by simp [hz]
                by_cases hn : (n : Int) = N
                · obtain ⟨m, rfl⟩ : ∃ m, n = m + 1 := ⟨n - 1, by omega⟩
                  have hp := Try.putFullI_f hQ (P + 1) (rng_cons G m) (by simp only [rng_len]; exact hn)
                  have hl1 : rng (G + 1) m ++ [P + 1] = rng (G + 1) (m + 1) := by rw [rng_app]; congr 2; omega
                  rw [hl1] at hp
                  have hm : ((m + 1 : Nat) : Int) = P + 1 - (G + 1) := by omega
                  have HM : Hid _ := hm
                  have q3 : N < P + 1 - G := by omega
                  have q4 : P + 1 - (G + 1) ≤ N := by omega
                  have HU : Hid _ := hu
                  clear hQ hP hu hm hl1 hn
                  go_wp2_with (first
                    | (go_at_call 12; refine hp.mono ?_; clear hp; rintro z w4 ⟨rfl, hQ4, hb4⟩; have hst := Try.stateI_f hQ4; simp only [rng_len] at hst; rw [HM.out] at hst; have HB4 : Hid _ := hb4; clear hQ4 hb4)
                    | (go_at_call 13; refine hst.mono ?_; clear hst; rintro z w6 ⟨rfl, hQ6, hb6⟩; have HQ6 : Hid _ := hQ6; have HB6 : Hid _ := hb6; clear hQ6 hb6)
                    | fail)
                  go_roundw
                  case rel => exact ⟨i + 1, P + 1, G + 1, by go_num, rfl, rfl, by have := HI.out.1; omega, by have := HI.out.2; omega, by omega, by omega, by omega, ⟨⟨m + 1, f, u, one d, by have := HM.out; omega, by have := HM.out; omega, by omega, HU.out, HQ6.out⟩, (HBEL.out.trans HB4.out).trans HB6.out⟩⟩
                  case measure => simp [intOf]; have := HI.out.2; omega
                · have hp := Try.putRoomI_f hQ (P + 1) (by simp only [rng_len]; omega)
                  have hl1 : rng G n ++ [P + 1] = rng G (n + 1) := by rw [rng_app]; congr 2; omega
                  rw [hl1] at hp
                  have hm : ((n + 1 : Nat) : Int) = P + 1 - G := by omega
                  have HM : Hid _ := hm
                  have q3 : ¬ N < P + 1 - G := by omega
                  have q4 : P + 1 - G ≤ N := by omega
                  have HU : Hid _ := hu
                  clear hQ hP hu hm hl1 hn
                  go_wp2_with (first
                    | (go_at_call 12; refine hp.mono ?_; clear hp; rintro z w4 ⟨rfl, hQ4, hb4⟩; have hst := Try.stateI_f hQ4; simp only [rng_len] at hst; rw [HM.out] at hst; have HB4 : Hid _ := hb4; clear hQ4 hb4)
                    | (go_at_call 13; refine hst.mono ?_; clear hst; rintro z w6 ⟨rfl, hQ6, hb6⟩; have HQ6 : Hid _ := hQ6; have HB6 : Hid _ := hb6; clear hQ6 hb6)
                    | fail)
                  go_roundw
                  case rel => exact ⟨i + 1, P + 1, G, by go_num, rfl, rfl, by have := HI.out.1; omega, by have := HI.out.2; omega, by omega, by omega, by omega, ⟨⟨n + 1, f, u, d, by have := HM.out; omega, by have := HM.out; omega, by omega, HU.out, HQ6.out⟩, (HBEL.out.trans HB4.out).trans HB6.out⟩⟩
                  case measure => simp [intOf]; have := HI.out.2; omega
        · have HBEL : Hid _ := hO.bel
          clear hO HIV
          by_cases hi2 : (i : Int) < (l.length : Int)
          · have q2 : ¬ (i : Int) < K := by have := HK.out; omega
            go_wp2
            go_ret
            exact ⟨rfl, HBEL.out⟩
          · go_wp2
            go_ret
            exact ⟨rfl, HBEL.out⟩
end Go.Proofs
