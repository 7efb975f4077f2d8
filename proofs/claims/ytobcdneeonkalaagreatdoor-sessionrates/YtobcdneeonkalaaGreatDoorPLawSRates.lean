/-
  Laid together by pack.py of LawSRates.
-/
import Derived.Test.YtobcdneeonkalaaGreatDoorPkX
namespace Go.Proofs
open Go.RowKit Go.Wi Go.Se Go.Ct Go.Dg
set_option maxHeartbeats 16000000 in
set_option maxRecDepth 4000 in
theorem Tryz.sessionRatesWalk (x0 : Int) (b0 : -9223372036854775808 ≤ x0 ∧ x0 ≤ 9223372036854775807) (x1 : Int) (b1 : -9223372036854775808 ≤ x1 ∧ x1 ≤ 9223372036854775807) (V : Value) {w : World} (b2 : ∃ l, Qu.Iv w V l ∧ l.length ≤ 140737488351232) (hT : Tryz.Tq w) :
    Calls Tryz.prog 3 #[.int .i64 x0, .int .i64 x1, V] w fun e w' => e = .returned (.bool true) ∧ Below w.heap.size w w' := by
  obtain ⟨l, ⟨⟨a0, c0, rfl, hv⟩, hib⟩, hl⟩ := b2
  have haw := Tryz.awake_any w hT
  have hp1 := fun W => Tryz.pick_any x0 6 (by decide) (by decide) b0.1 b0.2 W
  have hp2 := fun W => Tryz.pick_any x1 9 (by decide) (by decide) b1.1 b1.2 W
  obtain ⟨i0, hi0, hz0, hz1, hz2⟩ := info_parts Tryz.infoI
  have HV : Hid (l = [] ∨ ∃ g o, a0 = some ⟨g, o, none⟩ ∧ g < w.heap.size ∧ ∀ j (hj : j < l.length), w.cell? ⟨g, o + j, none⟩ = some (.int .i64 l[j])) := hv
  have HIB : Hid (∀ n ∈ l, -9223372036854775808 ≤ n ∧ n ≤ 9223372036854775807) := hib
  have HT : Hid _ := hT
  clear hv hib hT b0 b1
  go_enter Tryz.func3, Tryz.ntmps3
  go_upto_region 4 with (first
    | (go_at_call 6; refine haw.mono ?_; clear haw; rintro e w1 ⟨rfl, hb1⟩)
    | (go_at_call 7; refine (hp1 _).mono ?_; clear hp1; rintro e w2 ⟨k1, hk1, rfl, rfl⟩)
    | (go_at_call 7; refine (hp2 _).mono ?_; clear hp2; rintro e w3 ⟨k2, hk2, rfl, rfl⟩)
    | fail)
  obtain ⟨b, hb⟩ : ∃ b : Int, 1 + (k1 : Int) = b := ⟨_, rfl⟩
  obtain ⟨r, hr⟩ : ∃ r : Int, 1 + (k2 : Int) = r := ⟨_, rfl⟩
  rw [hb, hr]
  have hb1' : 1 ≤ b := by omega
  have hb2 : b ≤ 6 := by omega
  have hr1 : 1 ≤ r := by omega
  have hr2 : r ≤ 9 := by omega
  clear hb hr hk1 hk2
  obtain ⟨M, hM⟩ : ∃ M, M = (b - 1) * r := ⟨_, rfl⟩
  have hM0 : 0 ≤ M := by rw [hM]; exact Int.mul_nonneg (by omega) (by omega)
  have hM1 : M ≤ 45 := by
    have := Int.mul_le_mul (show b - 1 ≤ 5 by omega) hr2 (by omega) (by omega)
    omega
  have HM : Hid (M = (b - 1) * r) := hM
  have HMay : Hid (∀ T g, Se.Nu.May ⟨10, b, r, T, g⟩) := fun T g => ⟨⟨by show (1 : Int) ≤ 10; decide, by show (10 : Int) ≤ 1000000; decide⟩, ⟨hb1', by show b ≤ 100; omega⟩, hr1, by show r ≤ 1000000; omega⟩
  clear hM
  have hky := fun W => Tryz.lkey_any W
  go_wp2_with (first
    | (go_at_call 9; refine (hky _).mono ?_; clear hky; rintro e w4 ⟨g, rfl, hk1, hg1, hb4⟩; have q0 := Tryz.KH.new (w0 := w) HT.out (hb1.trans (hb4.mono hb1.size)) hk1 (fun k e => by cases e; exact hg1) (by decide) (by decide) 10 b r (HMay.out 0 0); clear hk1 hg1 hb4)
    | (go_at_call 8; refine q0.mono ?_; clear q0; rintro e w5 ⟨kb, rfl, hK5⟩)
    | fail)
  have hR5 := Tryz.KR.ofKH hK5
  clear hK5 hb1
  go_loopw [12, 13, 14] (fun av nv iv wr => ∃ (i : Nat) (T d : Int) (D : List (ByteArray × Int)) (xs : List Int), iv = .int .i64 i ∧ nv = .int .i64 T ∧ i ≤ l.length ∧ i ≤ 200 ∧ T ≤ 20 * i ∧ xs.length = i ∧ Tryz.KR w wr kb ⟨10, b, r, T, 0⟩ D av xs ∧ Se.Rin r M T d D xs) (fun _ _ iv _ => 200 - (intOf iv).toNat)
  case atStart => exact ⟨0, 0, 0, [], [], rfl, rfl, by omega, by omega, by omega, rfl, hR5, Se.Rin.nil r M hr1 hM0⟩
  case round =>
    obtain ⟨i, T, d, D, xs, rfl, rfl, hil, hi2, hTi, hxs, hK, hR⟩ := hrel
    clear hR5
    have t0 := hR.t0
    have d0 := hR.d0
    have d1 := hR.d1
    by_cases hi : i < l.length ∧ i < 200
    · obtain ⟨hi, hi3⟩ := hi
      rcases HV.out with h0 | ⟨g0, o, rfl, hg0, hcells⟩
      · rw [h0] at hi; simp at hi
      have e3 : wr.cell? ⟨g0, o + i, none⟩ = some (.int .i64 l[i]) := (hK.bel.cell (p := ⟨g0, o + i, none⟩) hg0).trans (hcells i hi)
      have hx := HIB.out _ (List.getElem_mem hi)
      have hp := fun W => Tryz.pick_any l[i] 12 (by decide) (by decide) hx.1 hx.2 W
      generalize l[i] = x at *
      have j1 : (i : Int) < (l.length : Int) := by omega
      have j2 : (i : Int) < 200 := by omega
      have j3 : (0 : Int) ≤ (i : Int) := by omega
      have HI : Hid (i + 1 ≤ l.length ∧ i + 1 ≤ 200) := ⟨hi, hi3⟩
      have HXS : Hid (xs.length = i) := hxs
      have HK : Hid _ := hK
      have HR : Hid _ := hR
      clear hcells hx hK hR hxs
      go_upto_region 13 with (first
        | (go_at_call 7; refine (hp _).mono ?_; clear hp; rintro e w6 ⟨k3, hk3, rfl, rfl⟩)
        | fail)
      obtain ⟨T1, hT1⟩ : ∃ T1 : Int, T + (k3 : Int) = T1 := ⟨_, rfl⟩
      rw [hT1]
      have t1 : T ≤ T1 := by omega
      have t2 : T1 ≤ 20 * i + 11 := by omega
      have HR1 : Hid _ := HR.out.go t1
      clear hT1 hk3 e3 HR
      by_cases hq : d - M - T1 ≤ 0
      · have q := HK.out.yes (HMay.out _ _) HR1.out.due d0 (by omega) t0 t1 (by omega) HM.out hM0 hq
        clear HK
        go_wp2_with (first
          | (go_at_call 10; refine q.mono ?_; clear q; rintro e w7 ⟨rfl, hK7⟩; have hb7 := hK7.bel; obtain ⟨own, gg, s1, s2, s3, s4⟩ := hK7.ex; have HS : Hid _ := s3; have HA : Hid (∀ V' w', Qu.App 3 w7 w' V' gg (xs.map (Value.int .i64) ++ [.int .i64 T1]) → _) := (fun V' w' ha => Tryz.KR.more hb7 s1 s2 s4 ha); clear hb7 s1 s2 s3 s4 hK7)
          | (at_builtin; refine Qu.app_one rfl _ _ rfl Tryz.underlying22 hi0 hz0 hz1 hz2 rfl (by omega) HS.out (by rw [List.length_map, HXS.out]; omega) rfl rfl rfl ?_; intro ad1 n1 cap1 w8 ha; have HK8 : Hid _ := HA.out _ _ ha; clear ha HA HS)
          | fail)
        go_roundw
        case rel => exact ⟨i + 1, T1, max d T1 + r, _, xs ++ [T1], by go_num, rfl, HI.out.1, HI.out.2, by omega, by rw [List.length_append, HXS.out]; rfl, HK8.out, HR1.out.let hr1 hM0 hq⟩
        case measure => have := HI.out; simp [intOf]; omega
      · obtain ⟨N, hN⟩ : ∃ N : Int, N = d - M - T1 := ⟨_, rfl⟩
        have n1 : 1 ≤ N := by omega
        have n2 : N ≤ r := by omega
        have q := HK.out.no (HMay.out _ _) HR1.out.due d0 (by omega) t0 t1 (by omega) HM.out hM0 hN (by omega)
        have HN : Hid (N = d - M - T1) := hN
        have f1 : ¬ N < 1 := by omega
        have f2 : ¬ r < N := by omega
        clear HK hN hq
        go_wp2_with (first
          | (go_at_call 10; refine q.mono ?_; clear q; rintro e w7 ⟨rfl, hK7⟩; have q2 := hK7.no (N := 1) (T := T1 + N - 1) (HMay.out _ _) (.inr rfl) d0 (by omega) (by omega) (by omega) (by omega) HM.out hM0 (by have := HN.out; omega) (by omega); clear hK7)
          | (go_at_call 10; refine q2.mono ?_; clear q2; rintro e w8 ⟨rfl, hK8⟩; have q3 := hK8.yes (T := T1 + N) (HMay.out _ _) (.inr rfl) d0 (by omega) (by omega) (by omega) (by omega) HM.out hM0 (by have := HN.out; omega); clear hK8)
          | (go_at_call 10; refine q3.mono ?_; clear q3; rintro e w9 ⟨rfl, hK9⟩; have hb7 := hK9.bel; obtain ⟨own, gg, s1, s2, s3, s4⟩ := hK9.ex; have HS : Hid _ := s3; have HA : Hid (∀ V' w', Qu.App 3 w9 w' V' gg (xs.map (Value.int .i64) ++ [.int .i64 (T1 + N)]) → _) := (fun V' w' ha => Tryz.KR.more hb7 s1 s2 s4 ha); clear hb7 s1 s2 s3 s4 hK9)
          | (at_builtin; refine Qu.app_one rfl _ _ rfl Tryz.underlying22 hi0 hz0 hz1 hz2 rfl (by omega) HS.out (by rw [List.length_map, HXS.out]; omega) rfl rfl rfl ?_; intro ad1 n1 cap1 w8 ha; have HK8 : Hid _ := HA.out _ _ ha; clear ha HA HS)
          | fail)
        go_roundw
        case rel => exact ⟨i + 1, T1 + N, max d (T1 + N) + r, _, xs ++ [T1 + N], by go_num, rfl, HI.out.1, HI.out.2, by omega, by rw [List.length_append, HXS.out]; rfl, HK8.out, (HR1.out.go (by omega)).let hr1 hM0 (by have := HN.out; omega)⟩
        case measure => have := HI.out; simp [intOf]; omega
    · have T2 : T ≤ 4000 := by omega
      have hj : ¬ ((i : Int) < (l.length : Int) ∧ (i : Int) < 200) := by omega
      obtain ⟨ac, cp, rfl, hcs⟩ := hK.cells
      have HC : Hid (xs = [] ∨ ∃ g o, ac = some ⟨g, o, none⟩ ∧ g < wr.heap.size ∧ ∀ j (hj : j < xs.length), wr.cell? ⟨g, o + j, none⟩ = some (.int .i64 xs[j])) := hcs
      have HK : Hid _ := hK
      have HR : Hid _ := hR
      have hl2 : xs.length ≤ 200 := by omega
      clear hcs hK hR hxs hTi hi2 hil d1
      have HJ : Hid _ := hj
      clear hj hi
      generalize wr = wa at *
      by_cases j1 : (i : Int) < (l.length : Int)
      all_goals
        have j2 : (i : Int) < (l.length : Int) → ¬ (i : Int) < 200 := fun h1 h2 => HJ.out ⟨h1, h2⟩
        first | (have j3 := j2 j1) | skip
        clear j2
        go_wp2
        go_loopw [21] (fun iv w' => ∃ i : Nat, iv = .int .i64 i ∧ i ≤ xs.length ∧ Below wa.heap.size wa w') (fun iv _ => xs.length - (intOf iv).toNat)
        case atStart => exact ⟨0, rfl, by omega, Below.refl _ _⟩
        case round =>
          obtain ⟨m, rfl, hm, hbm⟩ := hrel
          by_cases hm2 : m < xs.length
          · have u1 : (m : Int) < (xs.length : Int) := by omega
            have u2 : (0 : Int) ≤ (m : Int) := by omega
            go_wp2
            go_loopw [22] (fun jv w' => ∃ j : Nat, jv = .int .i64 j ∧ m ≤ j ∧ j ≤ xs.length ∧ Below wa.heap.size wa w') (fun jv _ => xs.length - (intOf jv).toNat)
            case atStart => exact ⟨m, rfl, by omega, by omega, hbm⟩
            case round =>
              obtain ⟨j, rfl, hmj, hj, hbj⟩ := hrel
              by_cases hj2 : j < xs.length
              · have u3 : (j : Int) < (xs.length : Int) := by omega
                have u4 : (0 : Int) ≤ (j : Int) := by omega
                rcases HC.out with h0 | ⟨g1, o1, rfl, hg1, hcs⟩
                · rw [h0] at hm2; simp at hm2
                have cm := (hbj.cell (p := ⟨g1, o1 + m, none⟩) hg1).trans (hcs m hm2)
                have cj := (hbj.cell (p := ⟨g1, o1 + j, none⟩) hg1).trans (hcs j hj2)
                have v1 := HR.out.rare hr1 HM.out hmj hj2
                have v2 := (HR.out.p m j hmj hj2).1
                have v3 := HR.out.g m hm2
                have v4 := HR.out.g j hj2
                have v5 : 0 ≤ xs[m] := v3.1
                have v6 : xs[j] ≤ T := v4.2.1
                clear v3 v4 hcs hbm
                generalize xs[m] = y at *
                generalize xs[j] = z at *
                obtain ⟨Q, hQ⟩ : ∃ Q, Q = (z - y) / r := ⟨_, rfl⟩
                have e2 : (z - y).tdiv r = Q := by rw [Int.tdiv_eq_ediv_of_nonneg (by omega), hQ]
                rw [← hQ] at v1
                have v7 : 0 ≤ Q := by rw [hQ]; exact Int.ediv_nonneg (by omega) (by omega)
                have v8 : Q ≤ 4000 := by
                  have := Int.ediv_le_self (a := z - y) r (by omega)
                  omega
                have v9 : ¬ r = 0 := by omega
                have HB : Hid _ := hbj
                have e3 := hQ.symm
                clear hQ hbj
                go_wp2
                go_quiet (fail)
                go_wp2
                go_roundw
                case rel => exact ⟨j + 1, by go_num, by omega, by omega, belowN HB.out _⟩
                case measure => simp [intOf]; omega
              · have u3 : ¬ (j : Int) < (xs.length : Int) := by omega
                go_wp2
                go_roundw
                case rel => exact ⟨m + 1, by go_num, by omega, hbj⟩
                case measure => simp [intOf]; omega
          · have u1 : ¬ (m : Int) < (xs.length : Int) := by omega
            have q := (HK.out.below hbm).other (HMay.out _ _) HR.out.due d0 t0 (by omega) HM.out hM0
            clear hbm
            go_wp2_with (first
              | (go_at_call 10; refine q.mono ?_; clear q; rintro e w7 ⟨rfl, hb7⟩)
              | fail)
            go_ret
            exact ⟨rfl, hb7⟩
end Go.Proofs
