/-
  JsonLimits, walked.
-/
import Derived.Test.YtaogkleinbgceaaGreatDoorJpk
import Derived.Deep.DeepCutAuto
namespace Go.Proofs
open Go.RowKit Go.Jv
set_option maxRecDepth 100000 in
set_option maxHeartbeats 8000000 in
theorem Tryz.jsonLimitsWalk (n : Int) (hn : -9223372036854775808 ≤ n ∧ n ≤ 9223372036854775807) (w : World) (hT : Tryz.Tb w) :
    Calls Tryz.prog 3 #[.int .i64 n] w fun e w' => e = .returned (.bool true) ∧ Below w.heap.size w w' := by
  have ha := Tryz.awake_any w hT
  have hpk := Tryz.pick_any n hn.1 hn.2
  have hpk14 := hpk 14 (by decide) (by decide)
  have hpk9 := hpk 9 (by decide) (by decide)
  have hd14 := pk_lt n 14 (by decide)
  have hr9 := pk_lt n 9 (by decide)
  generalize pk n 14 = d at hpk14 hd14
  generalize pk n 9 = r at hpk9 hr9
  have hp1 := fun k W hW => Tryz.parse_pk (deepT d) _ _ _ (by decide) (deep_all d hd14) k W (by unfold deepT; rw [ByteArray.size_append, ByteArray.size_append, openT_size, shutT_size]; show d + 1 + d ≤ _; omega) hW
  have hD : openT d ++ ⟨#[49]⟩ ++ shutT d = deepT d := rfl
  have hsb := fun t => Tryz.conv_sb t
  have HT : Hid _ := hT
  generalize deepT d = D at *
  have HD : Hid _ := hD
  clear hT hpk hD
  go_enter Tryz.func3, Tryz.ntmps3
  go_wp2_with (first
    | (go_at_call 9; refine ha.mono ?_; clear ha; rintro e1 w1 ⟨rfl, hb1⟩; have hT1 := HT.out.below hb1 HT.out.size)
    | (go_at_call 10; refine (hpk14 _).mono ?_; clear hpk14; rintro e2 w2 ⟨rfl, hw2⟩; obtain rfl := hw2.symm)
    | fail)
  go_loopw [5, 6, 7] (fun o s i wr => ∃ k : Nat, k ≤ d ∧ o = .string (openT k) ∧ s = .string (shutT k) ∧ i = .int .i64 k ∧ wr = w1) (fun _ _ i _ => d - (intOf i).toNat)
  case atStart => exact ⟨0, by omega, rfl, rfl, rfl, rfl⟩
  case round =>
    obtain ⟨k, hk, rfl, rfl, rfl, hw⟩ := hrel
    obtain rfl := hw.symm
    by_cases hlt : k < d
    · have hkd : (k : Int) < (d : Int) := by omega
      have h1 := openT_size k
      have h2 := shutT_size k
      have h3 : openT k ++ ⟨#[91]⟩ = openT (k + 1) := rfl
      have h4 : shutT k ++ ⟨#[93]⟩ = shutT (k + 1) := rfl
      generalize openT k = A at *
      generalize shutT k = B at *
      generalize hA' : openT (k + 1) = A' at *
      generalize hB' : shutT (k + 1) = B' at *
      have HA : Hid _ := hA'
      have HB : Hid _ := hB'
      clear hA' hB'
      go_wp2
      go_roundw
      case rel => exact ⟨k + 1, by omega, by rw [HA.out], by rw [HB.out], by go_num, trivial⟩
      case measure => simp [intOf]; omega
    · have hkd : ¬ (k : Int) < (d : Int) := by omega
      have e : k = d := by omega
      have h1 := openT_size k
      have h2 := shutT_size k
      have h3 := HD.out
      rw [← e] at h3
      generalize openT k = A at *
      generalize shutT k = B at *
      go_upto_region 14 with (first
        | (go_at_call 11; refine (hp1 _ _ hT1).mono ?_; clear hp1; rintro e3 w3 ⟨pv, ev, rfl, hb3, P, N, ho3, hf3⟩; have hT3 := hT1.below hb3 hT1.size)
        | (go_at_call 12; refine hf3.mono ?_; clear hf3; rintro e4 w4 ⟨rfl, hb4⟩; have hT4 := hT3.below hb4 hT3.size)
        | fail)
      have hbd := Jv.bthen (Jv.bthen hb1 hb3 (Nat.le_refl _)) hb4 (Nat.le_refl _)
      clear hb1 hb3 hb4 hT1 hT3 h1 h2 h3
      go_cut [75] (fun c wx => c = .bool false ∧ wx = w4)
      case first =>
        rcases ho3 with ⟨hc, hN⟩ | ⟨hc, hP, hN⟩
        · have hc' : (d : Int) ≤ 10 := by have := of_decide_eq_true hc; omega
          have hc2 : ¬ (10 : Int) < d := by omega
          have hN' : N = 0 := hN
          subst hN'
          clear hN hc
          go_wp2_with fail
          go_meet
          exact ⟨rfl, rfl⟩
        · have hc' : ¬ (d : Int) ≤ 10 := by have := of_decide_eq_false hc; omega
          have hc2 : (10 : Int) < d := by omega
          have hN' : N = 21 := hN
          have hP' : P = 10 := hP
          subst hN' hP'
          clear hN hP hc
          go_wp2_with fail
          go_meet
          exact ⟨rfl, rfl⟩
      case rest =>
        obtain ⟨rfl, hwc⟩ := hcut
        obtain rfl := hwc.symm
        clear HD ho3 hkd hlt e hk hd14
        obtain ⟨m, hm⟩ : ∃ m : Nat, m = 60 + r := ⟨_, rfl⟩
        have hm' : (60 : Int) + (r : Int) = (m : Int) := by omega
        have hm2 : 60 ≤ m ∧ m ≤ 68 := by omega
        have hl1 := list_all r hr9
        have hl2 := memb_all r hr9
        have e59 : 59 + r = m - 1 := by omega
        rw [e59, ← hm] at hl1 hl2
        have hpL := fun k W hW => Tryz.parse_pk (listT (m - 1) ++ ⟨#[93]⟩) _ _ _ (by decide) hl1 k W (by rw [ByteArray.size_append, listT_size]; show 2 + 2 * (m - 1) + 1 ≤ _; omega) hW
        have hpM := fun k W hW => Tryz.parse_pk (membT (m - 1) ++ ⟨#[125]⟩) _ _ _ (by decide) hl2 k W (by rw [ByteArray.size_append, membT_size]; show 7 + 7 * (m - 1) + 1 ≤ _; omega) hW
        obtain ⟨q, hq⟩ : ∃ q : Nat, q = 4090 + r := ⟨_, rfl⟩
        have hq' : (4090 : Int) + (r : Int) = (q : Int) := by omega
        have hq2 : 4090 ≤ q ∧ q ≤ 4098 := by omega
        have hpkq := Tryz.pick_any n hn.1 hn.2 q (by omega) (by omega)
        have hpq := pk_lt n q (by omega)
        generalize pk n q = pp at hpkq hpq
        have HQ : Hid _ := hq'
        have HPKQ : Hid _ := hpkq
        have hpk9b := hpk9
        have HP9 : Hid _ := hpk9b
        clear hl1 hl2 e59 hm hq hq' hpkq hpk9b hr9
        go_wp2_with (first
          | (go_at_call 10; refine (hpk9 _).mono ?_; clear hpk9; rintro e2 w2 ⟨rfl, hw2⟩; obtain rfl := hw2.symm)
          | fail)
        go_loopw [14, 15, 16] (fun lt mt i wr => ∃ k : Nat, k + 1 ≤ m ∧ lt = .string (listT k) ∧ mt = .string (membT k) ∧ i = .int .i64 ((k : Int) + 1) ∧ Below w.heap.size w wr ∧ w4.heap.size ≤ wr.heap.size ∧ Below w4.heap.size w4 wr) (fun _ _ i _ => m - (intOf i).toNat)
        case atStart => exact ⟨0, by omega, rfl, rfl, by go_num, hbd, Nat.le_refl _, Below.refl _ _⟩
        case round =>
          obtain ⟨k, hk, rfl, rfl, rfl, hbw, hsw, hbr⟩ := hrel
          have hl1 := listT_size k
          have hl2 := membT_size k
          by_cases hlt : k + 1 < m
          · have hkd : (k : Int) + 1 < (m : Int) := by omega
            have hcv := Tryz.conv2 k (by omega) wr
            have h3 : listT k ++ ⟨#[44, 49]⟩ = listT (k + 1) := rfl
            have h4 : membT k ++ ⟨#[44, 34]⟩ ++ two (k + 1) ++ ⟨#[34, 58, 49]⟩ = membT (k + 1) := rfl
            have h5 : (two (k + 1)).size = 2 := rfl
            have h6 : ((k : Int) + 1) / 10 ≤ 6 ∧ 0 ≤ ((k : Int) + 1) / 10 := by omega
            have h7 : ((k : Int) + 1) % 10 ≤ 9 ∧ 0 ≤ ((k : Int) + 1) % 10 := by omega
            generalize listT k = A at *
            generalize membT k = B at *
            generalize hA' : listT (k + 1) = A' at *
            generalize hB' : membT (k + 1) = B' at *
            generalize two (k + 1) = C at *
            have HA : Hid _ := hA'
            have HB : Hid _ := hB'
            clear hA' hB' hpL hpM
            go_wp2
            go_roundw
            case rel => exact ⟨k + 1, by omega, by rw [HA.out], by rw [HB.out], by go_num, hbw.alloc hbw.size _, by simp; omega, hbr.alloc hbr.size _⟩
            case measure => simp [intOf]; omega
          · have hkd : ¬ (k : Int) + 1 < (m : Int) := by omega
            have ek : m - 1 = k := by omega
            rw [ek] at hpL hpM
            have hTr := hT4.below hbr hT4.size
            have h3 : (listT k ++ ⟨#[93]⟩).size = 2 + 2 * k + 1 := by rw [ByteArray.size_append, hl1]; rfl
            have h4 : (membT k ++ ⟨#[125]⟩).size = 7 + 7 * k + 1 := by rw [ByteArray.size_append, hl2]; rfl
            have HZ : Hid _ := And.intro h3 h4
            generalize listT k = A at *
            generalize membT k = B at *
            clear h3 h4
            generalize hA' : A ++ ⟨#[93]⟩ = A' at *
            generalize hB' : B ++ ⟨#[125]⟩ = B' at *
            go_upto_region 26 with (first
              | (go_at_call 11; refine (hpL _ _ hTr).mono ?_; clear hpL; rintro e5 w5 ⟨pv5, ev5, rfl, hb5, P5, N5, ho5, hf5⟩; have hT5 := hTr.below hb5 hTr.size)
              | (go_at_call 12; refine hf5.mono ?_; clear hf5; rintro e6 w6 ⟨rfl, hb6⟩; have hT6 := hT5.below hb6 hT5.size)
              | fail)
            have hbe := Jv.bthen (Jv.bthen hbw hb5 (Nat.le_refl _)) hb6 (Nat.le_refl _)
            clear hbw hb5 hb6 hbr hsw hTr hT5 hT4 hbd hA'
            go_cut [134] (fun c wx => c = .bool false ∧ wx = w6)
            case first =>
              rcases ho5 with ⟨hc, hN⟩ | ⟨hc, hP, hN⟩
              · have hc' : (m : Int) ≤ 64 := by have := of_decide_eq_true hc; omega
                have hc2 : ¬ (64 : Int) < m := by omega
                have hN' : N5 = 0 := hN
                subst hN'
                clear hN hc
                go_wp2_with fail
                go_meet
                exact ⟨rfl, rfl⟩
              · have hc' : ¬ (m : Int) ≤ 64 := by have := of_decide_eq_false hc; omega
                have hc2 : (64 : Int) < m := by omega
                have hN' : N5 = 22 := hN
                have hP' : P5 = 129 := hP
                subst hN' hP'
                clear hN hP hc
                go_wp2_with fail
                go_meet
                exact ⟨rfl, rfl⟩
            case rest =>
              obtain ⟨rfl, hwc⟩ := hcut
              obtain rfl := hwc.symm
              clear ho5
              go_upto_region 30 with (first
                | (go_at_call 11; refine (hpM _ _ hT6).mono ?_; clear hpM; rintro e7 w7 ⟨pv7, ev7, rfl, hb7, P7, N7, ho7, hf7⟩; have hT7 := hT6.below hb7 hT6.size)
                | (go_at_call 12; refine hf7.mono ?_; clear hf7; rintro e8 w8 ⟨rfl, hb8⟩; have hT8 := hT7.below hb8 hT7.size)
                | fail)
              have hbf := Jv.bthen (Jv.bthen hbe hb7 (Nat.le_refl _)) hb8 (Nat.le_refl _)
              clear hb7 hb8 hbe hT6 hT7 hB'
              go_cut [169] (fun c wx => c = .bool false ∧ wx = w8)
              case first =>
                rcases ho7 with ⟨hc, hN⟩ | ⟨hc, hP, hN⟩
                · have hc' : (m : Int) ≤ 64 := by have := of_decide_eq_true hc; omega
                  have hc2 : ¬ (64 : Int) < m := by omega
                  have hN' : N7 = 0 := hN
                  subst hN'
                  clear hN hc
                  go_wp2_with fail
                  go_meet
                  exact ⟨rfl, rfl⟩
                · have hc' : ¬ (m : Int) ≤ 64 := by have := of_decide_eq_false hc; omega
                  have hc2 : (64 : Int) < m := by omega
                  have hN' : N7 = 22 := hN
                  have hP' : P7 = 449 := hP
                  subst hN' hP'
                  clear hN hP hc
                  go_wp2_with fail
                  go_meet
                  exact ⟨rfl, rfl⟩
              case rest =>
                obtain ⟨rfl, hwc⟩ := hcut
                obtain rfl := hwc.symm
                clear ho7 hlt hkd ek hk hm' hl1 hl2 hm2
                have hq' := HQ.out
                obtain ⟨w9, hmk9, hb9, hs9, hr9⟩ := Tryz.makeU q (by omega) w8
                have hpk9 := HP9.out
                go_wp2_with (first
                  | (go_at_call 10; refine (hpk9 _).mono ?_; clear hpk9; rintro e2 w2 ⟨rfl, hw2⟩; obtain rfl := hw2.symm)
                  | fail)
                clear hmk9
                go_loopw [22] (fun i wr => ∃ k : Nat, k ≤ q ∧ i = .int .i64 k ∧ wr.rowIs w8.heap.size 5 q (fun j => .int .u8 (if j < k then 32 else 0)) ∧ Below w8.heap.size w8 wr ∧ wr.heap.size = w8.heap.size + 1) (fun i _ => q - (intOf i).toNat)
                case atStart => exact ⟨0, by omega, rfl, hr9.congr (fun j _ => by simp), hb9, hs9⟩
                case round =>
                  obtain ⟨k3, hk3, rfl, hr, hbr3, hsr3⟩ := hrel
                  by_cases hlt : k3 < q
                  · have hkd : (k3 : Int) < (q : Int) := by omega
                    have cc := hr.cell (i := k3) hlt
                    have cf := hr.frozen k3
                    have HR : Hid (wr.rowIs w8.heap.size 5 q (fun j => .int .u8 (if j < k3 then 32 else 0))) := hr
                    clear hr hr9
                    go_wp2
                    go_roundw
                    case rel =>
                      refine ⟨k3 + 1, by omega, by go_num, (HR.out.set k3 (.int .u8 32)).congr (fun j _ => ?_), hbr3.setCell (p := ⟨w8.heap.size, k3, none⟩) (Nat.le_refl _) _, by simpa [World.setCell] using hsr3⟩
                      by_cases hj : j = k3
                      · subst hj; simp
                      · rw [if_neg hj]
                        by_cases hj2 : j < k3
                        · rw [if_pos hj2, if_pos (by omega)]
                        · rw [if_neg hj2, if_neg (by omega)]
                    case measure => simp [intOf]; omega
                  · have hkd : ¬ (k3 : Int) < (q : Int) := by omega
                    have cc := hr.cell (i := pp) hpq
                    have cf := hr.frozen pp
                    have cp : (pp : Int) < (q : Int) := by omega
                    have hpkq := HPKQ.out
                    have hr2 := (hr.set pp (.int .u8 49)).congr (g := fun j => .int .u8 (if j = pp then 49 else 32)) (fun j hj => by
                      by_cases hjp : j = pp
                      · subst hjp; simp
                      · rw [if_neg hjp, if_neg hjp, if_pos (by omega)])
                    have hb10 : Below w8.heap.size w8 (wr.setCell ⟨w8.heap.size, pp, none⟩ (.int .u8 49)) := hbr3.setCell (p := ⟨w8.heap.size, pp, none⟩) (Nat.le_refl _) _
                    have hP := Tryz.parse_row q pp w8.heap.size hpq (by omega) _ (hT8.below hb10 hT8.size) hr2
                    have HB10 : Hid _ := hb10
                    clear hr hr2 hb10 hr9
                    go_upto_region 40 with (first
                      | (go_at_call 10; refine (hpkq _).mono ?_; clear hpkq; rintro e2 w2 ⟨rfl, hw2⟩; obtain rfl := hw2.symm)
                      | (go_at_call 11; refine hP.mono ?_; clear hP; rintro e11 w11 ⟨pv11, ev11, rfl, hb11, P11, N11, ho11, hf11⟩)
                      | (go_at_call 12; refine hf11.mono ?_; clear hf11; rintro e12 w12 ⟨rfl, hb12⟩)
                      | fail)
                    have hbz : Below w.heap.size w w12 := Jv.bthen hbf (Jv.bthen (Jv.bthen HB10.out hb11 (Nat.le_refl _)) hb12 (Nat.le_refl _)) (Nat.le_refl _)
                    clear hb11 hb12 hbf
                    rcases ho11 with ⟨hc, hN⟩ | ⟨hc, hP, hN⟩
                    · have hc' : (q : Int) ≤ 4096 := by have := of_decide_eq_true hc; omega
                      have hc2 : ¬ (4096 : Int) < q := by omega
                      have hN' : N11 = 0 := hN
                      subst hN'
                      clear hN hc
                      go_wp2
                      go_ret
                      exact ⟨rfl, hbz⟩
                    · have hc' : ¬ (q : Int) ≤ 4096 := by have := of_decide_eq_false hc; omega
                      have hc2 : (4096 : Int) < q := by omega
                      have hN' : N11 = 22 := hN
                      have hP' : P11 = 4096 := hP
                      subst hN' hP'
                      clear hN hP hc
                      go_wp2
                      go_ret
                      exact ⟨rfl, hbz⟩
end Go.Proofs
