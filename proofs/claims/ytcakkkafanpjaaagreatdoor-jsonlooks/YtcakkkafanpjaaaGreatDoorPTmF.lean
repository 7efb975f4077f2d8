/-
  Laid together by packg.py of TmF.
-/
import Derived.Test.YtcakkkafanpjaaaGreatDoorQaJ
import Derived.Test.YtcakkkafanpjaaaGreatDoorPTmQ
import Derived.Deep.CutBlock
import Derived.Deep.DeepCutAuto
namespace Go.Proofs
open Go.RowKit Go.Jv
set_option maxRecDepth 20000 in
set_option maxHeartbeats 4000000 in
theorem Tryz.dsHex {w : World} {p : Nat} {t : ByteArray} (c0 : w.cell? ⟨p, 0, none⟩ = some (.string t)) (a : Nat) (ha : a ≤ 5000) (ht : t.size ≤ 4096) :
    Calls Tryz.prog 163 #[.pointer (some ⟨p, 0, none⟩), .int .i64 a, .int .i64 4] w fun e w' => e = .returned (.tuple #[.int .i64 (hexF t 4 a 0).1, .bool (hexF t 4 a 0).2]) ∧ w = w' := by
  obtain ⟨X, hX⟩ : ∃ X, hexF t 4 a 0 = X := ⟨_, rfl⟩
  have HX : Hid (hexF t (4 - 0) (a + 0) 0 = X) := hX
  rw [hX]
  clear hX
  go_enter Tryz.func163, Tryz.ntmps163
  go_wp2
  go_loopw [8, 9] (fun nv iv wr => ∃ j n : Nat, nv = .int .i64 n ∧ iv = .int .i64 ((a : Int) + (j : Int)) ∧ j ≤ 4 ∧ n < 16 ^ j ∧ Hid (hexF t (4 - j) (a + j) n = X) ∧ wr = w) (fun _ iv _ => a + 4 - (intOf iv).toNat)
  case atStart => exact ⟨0, 0, rfl, by simp, by omega, by decide, HX.out, rfl⟩
  case round =>
    obtain ⟨j, n, rfl, rfl, hj, hn, hE, rfl⟩ := hrel
    clear HX
    have hP : 16 ^ j ≤ 16 ^ 4 := Nat.pow_le_pow_right (by decide) hj
    have hP2 : (16 : Nat) ^ (j + 1) = 16 ^ j * 16 := Nat.pow_succ ..
    have hn2 : n < 65536 := by omega
    by_cases hj4 : j < 4
    · have r1 : (a : Int) + (j : Int) < (a : Int) + 4 := by omega
      obtain ⟨k, hk⟩ : ∃ k, 4 - j = k + 1 := ⟨3 - j, by omega⟩
      by_cases hs : a + j < t.size
      · have r2 : ¬ (t.size : Int) ≤ (a : Int) + (j : Int) := by omega
        have r0 : (0 : Int) ≤ (a : Int) + (j : Int) := by omega
        have r3 : (a : Int) + (j : Int) < (t.size : Int) := by omega
        have hE2 : hexF t (4 - j) (a + j) n = match hexOf (t.get! (a + j)) with | some d => hexF t k (a + j + 1) (16 * n + d) | none => (-1, false) := by
          rw [hk]
          show (if _ then _ else _) = _
          rw [if_neg (by omega)]
          rfl
        have hg : ∀ hh : ((a : Int) + (j : Int)).toNat < t.size, t[((a : Int) + (j : Int)).toNat]'hh = t.get! (a + j) := fun hh => by
          have e : ((a : Int) + (j : Int)).toNat = a + j := by omega
          simp only [e]
          exact Jv.get_eq t (a + j) hs
        have hE3 := hE2.symm.trans hE.out
        have hkk : k = 4 - (j + 1) := by omega
        subst hkk
        clear hE2 hk hE
        generalize t.get! (a + j) = c at *
        have hcl := c.toNat_lt
        have hwc : wrap64 (c.toNat : Int) = (c.toNat : Int) := by unfold wrap64; omega
        by_cases d1 : 48 ≤ c.toNat ∧ c.toNat ≤ 57
        · have hx : hexOf c = some (c.toNat - 48) := by unfold hexOf; rw [if_pos d1]
          rw [hx] at hE3
          have HE : Hid (hexF t (4 - (j + 1)) (a + j + 1) (16 * n + (c.toNat - 48)) = X) := hE3
          have a1 : (48 : Int) ≤ (c.toNat : Int) := by omega
          have a2 : (c.toNat : Int) ≤ 57 := by omega
          clear hE3 hx
          go_wp2
          go_roundw
          case rel => exact ⟨j + 1, 16 * n + (c.toNat - 48), congrArg (Value.int .i64) (by omega), congrArg (Value.int .i64) (by omega), by omega, by omega, HE.out, trivial⟩
          case measure => simp [intOf]; omega
        · by_cases d2 : 97 ≤ c.toNat ∧ c.toNat ≤ 102
          · have hx : hexOf c = some (c.toNat - 87) := by unfold hexOf; rw [if_neg d1, if_pos d2]
            rw [hx] at hE3
            have HE : Hid (hexF t (4 - (j + 1)) (a + j + 1) (16 * n + (c.toNat - 87)) = X) := hE3
            have a1 : (48 : Int) ≤ (c.toNat : Int) := by omega
            have a2 : ¬ (c.toNat : Int) ≤ 57 := by omega
            have a3 : (97 : Int) ≤ (c.toNat : Int) := by omega
            have a4 : (c.toNat : Int) ≤ 102 := by omega
            clear hE3 hx d1
            go_wp2
            go_roundw
            case rel => exact ⟨j + 1, 16 * n + (c.toNat - 87), congrArg (Value.int .i64) (by omega), congrArg (Value.int .i64) (by omega), by omega, by omega, HE.out, trivial⟩
            case measure => simp [intOf]; omega
          · by_cases d3 : 65 ≤ c.toNat ∧ c.toNat ≤ 70
            · have hx : hexOf c = some (c.toNat - 55) := by unfold hexOf; rw [if_neg d1, if_neg d2, if_pos d3]
              rw [hx] at hE3
              have HE : Hid (hexF t (4 - (j + 1)) (a + j + 1) (16 * n + (c.toNat - 55)) = X) := hE3
              have a1 : (48 : Int) ≤ (c.toNat : Int) := by omega
              have a2 : ¬ (c.toNat : Int) ≤ 57 := by omega
              have a3 : ¬ (97 : Int) ≤ (c.toNat : Int) := by omega
              have a4 : (65 : Int) ≤ (c.toNat : Int) := by omega
              have a5 : (c.toNat : Int) ≤ 70 := by omega
              clear hE3 hx d1 d2
              go_wp2
              go_roundw
              case rel => exact ⟨j + 1, 16 * n + (c.toNat - 55), congrArg (Value.int .i64) (by omega), congrArg (Value.int .i64) (by omega), by omega, by omega, HE.out, trivial⟩
              case measure => simp [intOf]; omega
            · have hx : hexOf c = none := by unfold hexOf; rw [if_neg d1, if_neg d2, if_neg d3]
              rw [hx] at hE3
              have HE : Hid ((-1, false) = X) := hE3
              clear hE3 hx
              go_wp2
              all_goals first
                | (exfalso; omega)
                | (go_ret2
                   exact ⟨by rw [← HE.out]; rfl, rfl⟩)
      · have r2 : (t.size : Int) ≤ (a : Int) + (j : Int) := by omega
        have HE : Hid ((0, true) = X) := (by
          have h1 := hE.out
          rw [hk] at h1
          rw [← h1]
          show _ = (if _ then _ else _)
          rw [if_pos (by omega)])
        clear hE
        go_wp2
        go_ret2
        exact ⟨by rw [← HE.out]; rfl, rfl⟩
    · obtain rfl : j = 4 := by omega
      have HE : Hid (((n : Int), false) = X) := hE.out
      have r1 : ¬ (a : Int) + ((4 : Nat) : Int) < (a : Int) + 4 := by omega
      clear hE
      go_wp2
      go_ret2
      exact ⟨by rw [← HE.out]; rfl, rfl⟩
theorem Jv.hexF_bound (t : ByteArray) : ∀ (k p n : Nat), -1 ≤ (hexF t k p n).1 ∧ (hexF t k p n).1 < (((n + 1) * 16 ^ k : Nat) : Int)
  | 0, p, n => by
    show (-1 : Int) ≤ (n : Int) ∧ (n : Int) < _
    constructor <;> simp <;> omega
  | k + 1, p, n => by
    show (-1 : Int) ≤ (if _ then _ else _ : Int × Bool).1 ∧ (if _ then _ else _ : Int × Bool).1 < _
    have hp : 0 < 16 ^ k := Nat.pow_pos (by decide)
    have h0 : (0 : Int) < (((n + 1) * 16 ^ (k + 1) : Nat) : Int) := by
      have : 0 < (n + 1) * 16 ^ (k + 1) := Nat.mul_pos (by omega) (Nat.pow_pos (by decide))
      omega
    split
    · exact ⟨by decide, h0⟩
    · cases hx : hexOf (t.get! p) with
      | none => exact ⟨by show (-1 : Int) ≤ -1; decide, by show (-1 : Int) < _; omega⟩
      | some d =>
        have hd := Jv.hexOf_lt _ _ hx
        obtain ⟨h1, h2⟩ := Jv.hexF_bound t k (p + 1) (16 * n + d)
        refine ⟨h1, Int.lt_of_lt_of_le h2 ?_⟩
        have : (16 * n + d + 1) * 16 ^ k ≤ (n + 1) * 16 ^ (k + 1) := by
          rw [Nat.pow_succ, ← Nat.mul_assoc, Nat.mul_right_comm]
          exact Nat.mul_le_mul_right _ (by omega)
        exact Int.ofNat_le.2 this
theorem Jv.hexF_four (t : ByteArray) (p : Nat) : -1 ≤ (hexF t 4 p 0).1 ∧ (hexF t 4 p 0).1 < 65536 := by
  have h := Jv.hexF_bound t 4 p 0
  exact ⟨h.1, by have := h.2; simpa using this⟩
set_option maxRecDepth 20000 in
set_option maxHeartbeats 8000000 in
theorem Tryz.dsPoint {w : World} {p : Nat} {t : ByteArray} (c0 : w.cell? ⟨p, 0, none⟩ = some (.string t)) (a : Nat) (ha : a ≤ 4096) (ht : t.size ≤ 4096) :
    Calls Tryz.prog 133 #[.pointer (some ⟨p, 0, none⟩), .int .i64 a] w fun e w' => e = .returned (.tuple #[.int .i64 (pointF t a).1, .int .i64 (pointF t a).2.1, .bool (pointF t a).2.2]) ∧ ∃ n, w' = w.drewN n := by
  have hF : pointF t a = if (hexF t 4 (a + 2) 0).2 = true ∨ (hexF t 4 (a + 2) 0).1 < 0 ∨ (56320 ≤ (hexF t 4 (a + 2) 0).1 ∧ (hexF t 4 (a + 2) 0).1 < 57344) then (0, 0, (hexF t 4 (a + 2) 0).2)
    else if (hexF t 4 (a + 2) 0).1 < 55296 ∨ 57343 < (hexF t 4 (a + 2) 0).1 then ((hexF t 4 (a + 2) 0).1, 6, false)
    else if t.size ≤ a + 6 then (0, 0, true)
    else if t.get! (a + 6) ≠ 92 then (0, 0, false)
    else if t.size ≤ a + 7 then (0, 0, true)
    else if t.get! (a + 7) ≠ 117 then (0, 0, false)
    else if (hexF t 4 (a + 8) 0).2 = true ∨ (hexF t 4 (a + 8) 0).1 < 56320 ∨ 57343 < (hexF t 4 (a + 8) 0).1 then (0, 0, (hexF t 4 (a + 8) 0).2)
    else (65536 + 1024 * ((hexF t 4 (a + 2) 0).1 - 55296) + (hexF t 4 (a + 8) 0).1 - 56320, 12, false) := rfl
  obtain ⟨Z, hZ⟩ : ∃ Z, pointF t a = Z := ⟨_, rfl⟩
  rw [hZ] at hF
  rw [hZ]
  have b1 := Jv.hexF_four t (a + 2)
  have b2 := Jv.hexF_four t (a + 8)
  have k1 : Calls Tryz.prog 163 #[.pointer (some ⟨p, 0, none⟩), .int .i64 ((a : Int) + 2), .int .i64 4] w fun e w' => e = .returned (.tuple #[.int .i64 (hexF t 4 (a + 2) 0).1, .bool (hexF t 4 (a + 2) 0).2]) ∧ w = w' := Tryz.dsHex c0 (a + 2) (by omega) ht
  have k2 : Hid (∀ n, Calls Tryz.prog 163 #[.pointer (some ⟨p, 0, none⟩), .int .i64 ((a : Int) + 8), .int .i64 4] (w.drewN n) fun e w' => e = .returned (.tuple #[.int .i64 (hexF t 4 (a + 8) 0).1, .bool (hexF t 4 (a + 8) 0).2]) ∧ w.drewN n = w') := fun n => Tryz.dsHex (w := w.drewN n) c0 (a + 8) (by omega) ht
  generalize hexF t 4 (a + 2) 0 = h1 at *
  generalize hexF t 4 (a + 8) 0 = h2 at *
  obtain ⟨z1, f1⟩ := h1
  obtain ⟨z2, f2⟩ := h2
  simp only at hF b1 b2 k1 k2
  have HF : Hid (Z = _) := hF
  clear hF hZ
  go_enter Tryz.func133, Tryz.ntmps133
  go_upto_region 2 with (first | (go_at_call 163; refine k1.mono ?_; clear k1; rintro e w1 ⟨rfl, rfl⟩) | fail)
  go_cut [7, 8, 30] (fun nv cv bv wx => nv = .int .i64 z1 ∧ cv = .bool f1 ∧ bv = .bool (decide (f1 = true ∨ z1 < 0 ∨ (56320 ≤ z1 ∧ z1 < 57344))) ∧ w = wx)
  case first =>
    cases f1
    all_goals go_wp2
    all_goals
      go_meet
      refine ⟨rfl, rfl, congrArg Value.bool ?_, rfl⟩
      rw [Bool.eq_iff_iff]
      simp
      try omega
  case rest =>
    obtain ⟨rfl, rfl, rfl, rfl⟩ := hcut
    by_cases c1 : f1 = true ∨ z1 < 0 ∨ (56320 ≤ z1 ∧ z1 < 57344)
    · have HZ : Hid (Z = (0, 0, f1)) := HF.out.trans (if_pos c1)
      rw [decide_eq_true c1]
      clear c1 HF k2
      go_wp2
      go_ret3
      exact ⟨by rw [HZ.out]; rfl, 0, rfl⟩
    · have HF0 := HF.out.trans (if_neg c1)
      have HF1 : Hid (Z = _) := HF0
      clear HF HF0
      rw [decide_eq_false c1]
      have hz : 0 ≤ z1 := by omega
      go_upto_region 4 with (fail)
      go_cut [7, 37] (fun nv bv wx => nv = .int .i64 z1 ∧ bv = .bool (decide (z1 < 55296 ∨ 57343 < z1)) ∧ w = wx)
      case first =>
        clear HF1
        go_wp2
        all_goals
          go_meet
          refine ⟨rfl, congrArg Value.bool ?_, rfl⟩
          rw [Bool.eq_iff_iff]
          simp
          try omega
      case rest =>
        obtain ⟨rfl, rfl, rfl⟩ := hcut
        by_cases c2 : z1 < 55296 ∨ 57343 < z1
        · have HZ : Hid (Z = (z1, 6, false)) := HF1.out.trans (if_pos c2)
          rw [decide_eq_true c2]
          clear c1 c2 HF1 k2
          go_wp2
          go_ret3
          exact ⟨by rw [HZ.out]; rfl, 0, rfl⟩
        · have HF : Hid (Z = _) := HF1.out.trans (if_neg c2)
          clear HF1
          rw [decide_eq_false c2]
          have HG : Hid (∀ i (h : i < t.size), t[i] = t.get! i) := Jv.get_eq t
          go_wp2
          go_loopw [9] (fun iv wr => ∃ i n : Nat, iv = .int .i64 i ∧ 6 ≤ i ∧ i ≤ 8 ∧ (6 < i → a + 6 < t.size ∧ t.get! (a + 6) = 92) ∧ (7 < i → a + 7 < t.size ∧ t.get! (a + 7) = 117) ∧ wr = w.drewN n) (fun iv _ => 8 - (intOf iv).toNat)
          case atStart => exact ⟨6, 0, rfl, by omega, by omega, fun e => by omega, fun e => by omega, rfl⟩
          case round =>
            obtain ⟨i, n, rfl, hi6, hi8, h6, h7, rfl⟩ := hrel
            have hi : i = 6 ∨ i = 7 ∨ i = 8 := by omega
            rcases hi with rfl | rfl | rfl
            · have HF6 : Hid (Z = _) := HF.out
              by_cases hs : t.size ≤ a + 6
              · have HZ : Hid (Z = (0, 0, true)) := HF6.out.trans (if_pos hs)
                have r1 : (t.size : Int) ≤ (a : Int) + 6 := by omega
                clear HF k2 h6 h7 HF6
                go_wp2
                go_ret3
                exact ⟨by rw [HZ.out]; rfl, _, rfl⟩
              · have HF2 := HF6.out.trans (if_neg hs)
                have r1 : ¬ (t.size : Int) ≤ (a : Int) + 6 := by omega
                have r2 : (a : Int) + 6 < (t.size : Int) := by omega
                have r0 : (0 : Int) ≤ (a : Int) + 6 := by omega
                have hg : ∀ hh : ((a : Int) + 6).toNat < t.size, t[((a : Int) + 6).toNat]'hh = t.get! (a + 6) := fun hh => by
                  have e : ((a : Int) + 6).toNat = a + 6 := by omega
                  simp only [e]
                  exact HG.out (a + 6) (by omega)
                have HR : Hid (t.get! (a + 6) = 92 → a + 6 < t.size ∧ t.get! (a + 6) = 92) := fun e => ⟨by omega, e⟩
                by_cases hc : t.get! (a + 6) = 92
                · have r3 : (((t.get! (a + 6)).toNat : Int) != ((((⟨#[92, 117]⟩ : ByteArray)[0]'(by decide)).toNat : Nat) : Int)) = false := by rw [hc]; rfl
                  have HR := HR.out hc
                  have HR : Hid (a + 6 < t.size ∧ t.get! (a + 6) = 92) := HR
                  have HO : Hid (6 < 6 → a + 6 < t.size ∧ t.get! (a + 6) = 92) := h6
                  clear HF2 h6 h7 HF6 hc
                  generalize t.get! (a + 6) = d at *
                  go_upto_region 11 with (fail)
                  go_quiet (fail)
                  go_wp2
                  go_roundw
                  case rel => exact ⟨7, _, rfl, by omega, by omega, fun _ => HR.out, fun e => by omega, rfl⟩
                  case measure => simp [intOf]
                · have HZ : Hid (Z = (0, 0, false)) := HF2.trans (if_pos hc)
                  have r3 : (((t.get! (a + 6)).toNat : Int) != ((((⟨#[92, 117]⟩ : ByteArray)[0]'(by decide)).toNat : Nat) : Int)) = true := by
                    show ((((t.get! (a + 6)).toNat : Nat) : Int) != 92) = true
                    simp only [bne_iff_ne, ne_eq]
                    exact fun e => hc (UInt8.toNat_inj.1 (by show (t.get! (a + 6)).toNat = 92; omega))
                  clear HF2 h6 h7 HF6 hc HF k2 HR
                  generalize t.get! (a + 6) = d at *
                  go_upto_region 11 with (fail)
                  go_quiet (fail)
                  go_wp2
                  go_ret3
                  exact ⟨by rw [HZ.out]; rfl, _, rfl⟩
            · obtain ⟨g1, g2⟩ := h6 (by omega)
              have HF7 : Hid (Z = _) := HF.out.trans ((if_neg (by omega)).trans (if_neg (fun e => e g2)))
              by_cases hs : t.size ≤ a + 7
              · have HZ : Hid (Z = (0, 0, true)) := HF7.out.trans (if_pos hs)
                have r1 : (t.size : Int) ≤ (a : Int) + 7 := by omega
                clear HF k2 h6 h7 HF7
                go_wp2
                go_ret3
                exact ⟨by rw [HZ.out]; rfl, _, rfl⟩
              · have HF2 := HF7.out.trans (if_neg hs)
                have r1 : ¬ (t.size : Int) ≤ (a : Int) + 7 := by omega
                have r2 : (a : Int) + 7 < (t.size : Int) := by omega
                have r0 : (0 : Int) ≤ (a : Int) + 7 := by omega
                have hg : ∀ hh : ((a : Int) + 7).toNat < t.size, t[((a : Int) + 7).toNat]'hh = t.get! (a + 7) := fun hh => by
                  have e : ((a : Int) + 7).toNat = a + 7 := by omega
                  simp only [e]
                  exact HG.out (a + 7) (by omega)
                have HR : Hid (t.get! (a + 7) = 117 → a + 7 < t.size ∧ t.get! (a + 7) = 117) := fun e => ⟨by omega, e⟩
                by_cases hc : t.get! (a + 7) = 117
                · have r3 : (((t.get! (a + 7)).toNat : Int) != ((((⟨#[92, 117]⟩ : ByteArray)[1]'(by decide)).toNat : Nat) : Int)) = false := by rw [hc]; rfl
                  have HR := HR.out hc
                  have HR : Hid (a + 7 < t.size ∧ t.get! (a + 7) = 117) := HR
                  have HO : Hid (6 < 7 → a + 6 < t.size ∧ t.get! (a + 6) = 92) := h6
                  clear HF2 h6 h7 HF7 hc
                  generalize t.get! (a + 7) = d at *
                  go_upto_region 11 with (fail)
                  go_quiet (fail)
                  go_wp2
                  go_roundw
                  case rel => exact ⟨8, _, rfl, by omega, by omega, fun _ => HO.out (by omega), fun _ => HR.out, rfl⟩
                  case measure => simp [intOf]
                · have HZ : Hid (Z = (0, 0, false)) := HF2.trans (if_pos hc)
                  have r3 : (((t.get! (a + 7)).toNat : Int) != ((((⟨#[92, 117]⟩ : ByteArray)[1]'(by decide)).toNat : Nat) : Int)) = true := by
                    show ((((t.get! (a + 7)).toNat : Nat) : Int) != 117) = true
                    simp only [bne_iff_ne, ne_eq]
                    exact fun e => hc (UInt8.toNat_inj.1 (by show (t.get! (a + 7)).toNat = 117; omega))
                  clear HF2 h6 h7 HF7 hc HF k2 HR
                  generalize t.get! (a + 7) = d at *
                  go_upto_region 11 with (fail)
                  go_quiet (fail)
                  go_wp2
                  go_ret3
                  exact ⟨by rw [HZ.out]; rfl, _, rfl⟩
            · obtain ⟨g1, g2⟩ := h6 (by omega)
              obtain ⟨g3, g4⟩ := h7 (by omega)
              have HF8 : Hid (Z = _) := HF.out.trans ((if_neg (by omega)).trans ((if_neg (fun e => e g2)).trans ((if_neg (by omega)).trans (if_neg (fun e => e g4)))))
              have k3 := k2.out n
              clear k2 HF h6 h7 g2 g4 g1 g3 HG
              go_upto_region 14 with (first | (go_at_call 163; refine k3.mono ?_; clear k3; rintro e w1 ⟨rfl, rfl⟩) | fail)
              go_cut [10, 8, 79] (fun nv cv bv wx => nv = .int .i64 z2 ∧ cv = .bool f2 ∧ bv = .bool (decide (f2 = true ∨ z2 < 56320 ∨ 57343 < z2)) ∧ w.drewN n = wx)
              case first =>
                clear HF8
                cases f2
                all_goals go_wp2
                all_goals
                  go_meet
                  refine ⟨rfl, rfl, congrArg Value.bool ?_, rfl⟩
                  rw [Bool.eq_iff_iff]
                  simp
                  try omega
              case rest =>
                obtain ⟨rfl, rfl, rfl, rfl⟩ := hcut
                by_cases c3 : f2 = true ∨ z2 < 56320 ∨ 57343 < z2
                · have HZ : Hid (Z = (0, 0, f2)) := HF8.out.trans (if_pos c3)
                  rw [decide_eq_true c3]
                  clear c3 HF8
                  go_wp2
                  go_ret3
                  exact ⟨by rw [HZ.out]; rfl, _, rfl⟩
                · have HZ : Hid (Z = (65536 + 1024 * (z1 - 55296) + z2 - 56320, 12, false)) := HF8.out.trans (if_neg c3)
                  rw [decide_eq_false c3]
                  have q1 : 56320 ≤ z2 ∧ z2 ≤ 57343 := by omega
                  have q2 : 55296 ≤ z1 ∧ z1 ≤ 56319 := by omega
                  obtain ⟨q3, q4⟩ := q1
                  obtain ⟨q5, q6⟩ := q2
                  clear c1 c2 c3 HF8
                  go_wp2
                  go_ret3
                  exact ⟨by rw [HZ.out]; rfl, _, rfl⟩
end Go.Proofs
