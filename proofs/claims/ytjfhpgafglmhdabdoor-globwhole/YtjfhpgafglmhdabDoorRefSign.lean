import Derived.Test.YtjfhpgafglmhdabDoorEdge
import Derived.Test.YtjfhpgafglmhdabDoorRefP
namespace Go.Proofs
open Go.RowKit
theorem Sg.bt_at (s : ByteArray) (a j : Nat) (h : a + j < s.size) : (s[a + j]'h).toNat = Sg.bt s a j := by
  unfold Sg.bt
  rw [Utf8W.get!_of_lt s (a + j) h]
theorem Sg.bt_at0 (s : ByteArray) (a : Nat) (h : a < s.size) : (s[a]'h).toNat = Sg.bt s a 0 := by
  unfold Sg.bt
  rw [Nat.add_zero, Utf8W.get!_of_lt s a h]
theorem Sg.ret_sign {a b c d : Int} {e f : Bool} (h1 : a = c) (h2 : b = d) (h3 : e = f) : Ending.returned (.tuple #[.int .i64 a, .int .i64 b, .bool e]) = .returned (.tuple #[.int .i64 c, .int .i64 d, .bool f]) := by rw [h1, h2, h3]
set_option maxRecDepth 100000 in
set_option maxHeartbeats 4000000 in
theorem Tryd.refSign_low (s : ByteArray) (a : Nat) (ha : a < s.size) (_hs : s.size ≤ 140737488355328) (w : World) (h0 : Sg.bt s a 0 < 128) :
    Calls Tryd.prog 38 #[.string s, .int .i64 a] w fun e w' => e = .returned (.tuple #[.int .i64 (Utf8.decode s a).1, .int .i64 (Utf8.decode s a).2, .bool (!Sg.wrongAt s a)]) ∧ w' = w := by
  have hd := Sg.sign_low s a h0
  have hw : Sg.wrongAt s a = false := by unfold Sg.wrongAt; rw [hd]; simp; omega
  rw [hd, hw]
  rw [← Sg.bt_at0 s a ha] at h0 ⊢
  clear hd hw
  have h0' : (((s[a]'ha).toNat : Nat) : Int) < 128 := by omega
  go_enter Tryd.func38, Tryd.ntmps38
  go_wp2
  go_ret3
  exact ⟨rfl, rfl⟩
set_option maxRecDepth 100000 in
set_option maxHeartbeats 4000000 in
theorem Tryd.refSign_nolead (s : ByteArray) (a : Nat) (ha : a < s.size) (_hs : s.size ≤ 140737488355328) (w : World) (h0 : 128 ≤ Sg.bt s a 0) (h1 : Sg.bt s a 0 < 194 ∨ 244 < Sg.bt s a 0) :
    Calls Tryd.prog 38 #[.string s, .int .i64 a] w fun e w' => e = .returned (.tuple #[.int .i64 65533, .int .i64 1, .bool false]) ∧ w' = w := by
  rw [← Sg.bt_at0 s a ha] at h0 h1
  generalize hc : (s[a]'ha).toNat = c at h0 h1
  have hc' : (((s[a]'ha).toNat : Nat) : Int) = (c : Int) := by rw [hc]
  have hc2 : c < 256 := by rw [← hc]; exact UInt8.toNat_lt _
  clear hc
  rcases h1 with h1 | h1
  · go_enter Tryd.func38, Tryd.ntmps38
    go_wp2
    go_ret3
    exact ⟨rfl, rfl⟩
  · go_enter Tryd.func38, Tryd.ntmps38
    go_wp2
    go_ret3
    exact ⟨rfl, rfl⟩
set_option maxRecDepth 100000 in
set_option maxHeartbeats 4000000 in
theorem Tryd.refSign_short2 (s : ByteArray) (a : Nat) (ha : a < s.size) (_hs : s.size ≤ 140737488355328) (w : World) (h0 : 194 ≤ Sg.bt s a 0) (h1 : Sg.bt s a 0 ≤ 223) (hl : s.size < a + 2) :
    Calls Tryd.prog 38 #[.string s, .int .i64 a] w fun e w' => e = .returned (.tuple #[.int .i64 65533, .int .i64 1, .bool false]) ∧ w' = w := by
  rw [← Sg.bt_at0 s a ha] at h0 h1
  generalize hc : (s[a]'ha).toNat = c at h0 h1
  have hc' : (((s[a]'ha).toNat : Nat) : Int) = (c : Int) := by rw [hc]
  clear hc
  go_enter Tryd.func38, Tryd.ntmps38
  go_wp2
  go_ret3
  exact ⟨rfl, rfl⟩
set_option maxRecDepth 100000 in
set_option maxHeartbeats 4000000 in
theorem Tryd.refSign_long2 (s : ByteArray) (a : Nat) (ha : a < s.size) (_hs : s.size ≤ 140737488355328) (w : World) (h0 : 194 ≤ Sg.bt s a 0) (h1 : Sg.bt s a 0 ≤ 223) (hl : a + 2 ≤ s.size) :
    Calls Tryd.prog 38 #[.string s, .int .i64 a] w fun e w' => e = .returned (.tuple #[.int .i64 (Utf8.decode s a).1, .int .i64 (Utf8.decode s a).2, .bool (!Sg.wrongAt s a)]) ∧ w' = w := by
  have hlead : Sg.Lead 2 192 128 (Sg.bt s a 0) := by unfold Sg.Lead; omega
  have hbad := fun k h1 h2 h3 => Sg.sign_cont s a 2 192 128 k hlead h1 h2 h3
  have hall := Sg.sign_all s a 2 192 128 hlead hl
  have hr1 : Sg.refR (Sg.bt s a) 192 1 = Sg.bt s a 0 - 192 := rfl
  have Hbad : Hid _ := hbad
  have Hall : Hid _ := hall
  have Hr1 : Hid _ := hr1
  have hc0 := Sg.bt_at0 s a ha
  generalize hc : Sg.bt s a 0 = c at h0 h1 hc0
  have hc' : (((s[a]'ha).toNat : Nat) : Int) = (c : Int) := by rw [hc0]
  have Hc : Hid _ := hc
  clear hc hc0 hlead hbad hall hr1
  have i0 : ¬ (c : Int) < 128 := by omega
  have i1 : (194 : Int) ≤ (c : Int) := by omega
  have i2 : (c : Int) ≤ 223 := by omega
  have il : ¬ (s.size : Int) < (a : Int) + 2 := by omega
  go_enter Tryd.func38, Tryd.ntmps38
  go_wp2
  go_loopw [9, 11] (fun r i wr => ∃ (k R : Nat), wr = w ∧ 1 ≤ k ∧ k ≤ 2 ∧ i = .int .i64 k ∧ r = .int .i64 R ∧ R = Sg.refR (Sg.bt s a) 192 k ∧ (∀ j, 1 ≤ j → j < k → 128 ≤ Sg.bt s a j ∧ Sg.bt s a j ≤ 191) ∧ (k ≤ 1 → R ≤ 31) ∧ (k ≤ 2 → R ≤ 2047) ∧ (k ≤ 3 → R ≤ 131071) ∧ R ≤ 8388607) (fun _ i _ => 2 - (intOf i).toNat)
  case atStart => exact ⟨1, c - 192, rfl, by omega, by omega, rfl, by rw [show ((c - 192 : Nat) : Int) = (c : Int) - 192 from by omega], by rw [Hr1.out, Hc.out], fun j h1 h2 => by omega, by omega, by omega, by omega, by omega⟩
  case round =>
    obtain ⟨k, R, rfl, hk1, hkn, rfl, rfl, hR, hj, r1, r2, r3, r4⟩ := hrel
    have HR : Hid _ := hR
    have Hj : Hid _ := hj
    clear hR hj
    by_cases hlt : k < 2
    · have hin : a + k < s.size := by omega
      have hbk := Sg.bt_at s a k hin
      have hb2 := Sg.bt_lt s a k
      generalize hb : Sg.bt s a k = b at hbk hb2
      have Hb : Hid _ := hb
      have hb' : (((s[a + k]'hin).toNat : Nat) : Int) = (b : Int) := by rw [hbk]
      clear hb hbk
      have e1 : ((a : Int) + (k : Int)).toNat = a + k := by omega
      by_cases g1 : b < 128
      · go_wp2
        go_ret3
        have hd := Hbad.out k hk1 hlt (by rw [Hb.out]; omega)
        exact ⟨Sg.ret_sign (by rw [hd]; rfl) (by rw [hd]; rfl) (by rw [Sg.wrong_of s a hd]; rfl), rfl⟩
      · by_cases g2 : 191 < b
        · go_wp2
          go_ret3
          have hd := Hbad.out k hk1 hlt (by rw [Hb.out]; omega)
          exact ⟨Sg.ret_sign (by rw [hd]; rfl) (by rw [hd]; rfl) (by rw [Sg.wrong_of s a hd]; rfl), rfl⟩
        · go_wp2
          go_roundw
          case rel =>
            refine ⟨k + 1, R * 64 + (b - 128), by trivial, by omega, by omega, by go_num, ?_, by rw [Sg.refR_step _ _ _ hk1, ← HR.out, Hb.out], fun j h1 h2 => ?_, by omega, by omega, by omega, by omega⟩
            · rw [show ((R * 64 + (b - 128) : Nat) : Int) = (R : Int) * 64 + (b : Int) - 128 from by omega]
            · by_cases hjk : j = k
              · subst hjk
                rw [Hb.out]
                omega
              · exact Hj.out j h1 (by omega)
          case measure => simp [intOf]; omega
    · obtain rfl : k = 2 := by omega
      have hd := Hall.out Hj.out
      rw [← HR.out] at hd
      by_cases g1 : R < 128
      · rw [if_pos (.inl g1)] at hd
        have Hd : Hid _ := hd
        clear hd
        go_wp2
        go_ret3
        exact ⟨Sg.ret_sign (by rw [Hd.out]; rfl) (by rw [Hd.out]; rfl) (by rw [Sg.wrong_of s a Hd.out]; rfl), rfl⟩
      · have g2 : ¬ 1114111 < R := by omega
        have g3 : ¬ 55296 ≤ R := by omega
        rw [if_neg (by omega)] at hd
        have Hd : Hid _ := hd
        clear hd
        go_wp2
        go_ret3
        exact ⟨Sg.ret_sign (by rw [Hd.out]) (by rw [Hd.out]; rfl) (by rw [Sg.sign_right s a 2 R Hd.out (by omega)]; rfl), rfl⟩
set_option maxRecDepth 100000 in
set_option maxHeartbeats 4000000 in
theorem Tryd.refSign_short3 (s : ByteArray) (a : Nat) (ha : a < s.size) (_hs : s.size ≤ 140737488355328) (w : World) (h0 : 224 ≤ Sg.bt s a 0) (h1 : Sg.bt s a 0 ≤ 239) (hl : s.size < a + 3) :
    Calls Tryd.prog 38 #[.string s, .int .i64 a] w fun e w' => e = .returned (.tuple #[.int .i64 65533, .int .i64 1, .bool false]) ∧ w' = w := by
  rw [← Sg.bt_at0 s a ha] at h0 h1
  generalize hc : (s[a]'ha).toNat = c at h0 h1
  have hc' : (((s[a]'ha).toNat : Nat) : Int) = (c : Int) := by rw [hc]
  clear hc
  go_enter Tryd.func38, Tryd.ntmps38
  go_wp2
  go_ret3
  exact ⟨rfl, rfl⟩
set_option maxRecDepth 100000 in
set_option maxHeartbeats 4000000 in
theorem Tryd.refSign_long3 (s : ByteArray) (a : Nat) (ha : a < s.size) (_hs : s.size ≤ 140737488355328) (w : World) (h0 : 224 ≤ Sg.bt s a 0) (h1 : Sg.bt s a 0 ≤ 239) (hl : a + 3 ≤ s.size) :
    Calls Tryd.prog 38 #[.string s, .int .i64 a] w fun e w' => e = .returned (.tuple #[.int .i64 (Utf8.decode s a).1, .int .i64 (Utf8.decode s a).2, .bool (!Sg.wrongAt s a)]) ∧ w' = w := by
  have hlead : Sg.Lead 3 224 2048 (Sg.bt s a 0) := by unfold Sg.Lead; omega
  have hbad := fun k h1 h2 h3 => Sg.sign_cont s a 3 224 2048 k hlead h1 h2 h3
  have hall := Sg.sign_all s a 3 224 2048 hlead hl
  have hr1 : Sg.refR (Sg.bt s a) 224 1 = Sg.bt s a 0 - 224 := rfl
  have Hbad : Hid _ := hbad
  have Hall : Hid _ := hall
  have Hr1 : Hid _ := hr1
  have hc0 := Sg.bt_at0 s a ha
  generalize hc : Sg.bt s a 0 = c at h0 h1 hc0
  have hc' : (((s[a]'ha).toNat : Nat) : Int) = (c : Int) := by rw [hc0]
  have Hc : Hid _ := hc
  clear hc hc0 hlead hbad hall hr1
  have i0 : ¬ (c : Int) < 128 := by omega
  have i1 : (194 : Int) ≤ (c : Int) := by omega
  have i2 : ¬ (c : Int) ≤ 223 := by omega
  have i3 : (224 : Int) ≤ (c : Int) := by omega
  have i4 : (c : Int) ≤ 239 := by omega
  have il : ¬ (s.size : Int) < (a : Int) + 3 := by omega
  go_enter Tryd.func38, Tryd.ntmps38
  go_wp2
  go_loopw [9, 11] (fun r i wr => ∃ (k R : Nat), wr = w ∧ 1 ≤ k ∧ k ≤ 3 ∧ i = .int .i64 k ∧ r = .int .i64 R ∧ R = Sg.refR (Sg.bt s a) 224 k ∧ (∀ j, 1 ≤ j → j < k → 128 ≤ Sg.bt s a j ∧ Sg.bt s a j ≤ 191) ∧ (k ≤ 1 → R ≤ 31) ∧ (k ≤ 2 → R ≤ 2047) ∧ (k ≤ 3 → R ≤ 131071) ∧ R ≤ 8388607) (fun _ i _ => 3 - (intOf i).toNat)
  case atStart => exact ⟨1, c - 224, rfl, by omega, by omega, rfl, by rw [show ((c - 224 : Nat) : Int) = (c : Int) - 224 from by omega], by rw [Hr1.out, Hc.out], fun j h1 h2 => by omega, by omega, by omega, by omega, by omega⟩
  case round =>
    obtain ⟨k, R, rfl, hk1, hkn, rfl, rfl, hR, hj, r1, r2, r3, r4⟩ := hrel
    have HR : Hid _ := hR
    have Hj : Hid _ := hj
    clear hR hj
    by_cases hlt : k < 3
    · have hin : a + k < s.size := by omega
      have hbk := Sg.bt_at s a k hin
      have hb2 := Sg.bt_lt s a k
      generalize hb : Sg.bt s a k = b at hbk hb2
      have Hb : Hid _ := hb
      have hb' : (((s[a + k]'hin).toNat : Nat) : Int) = (b : Int) := by rw [hbk]
      clear hb hbk
      have e1 : ((a : Int) + (k : Int)).toNat = a + k := by omega
      by_cases g1 : b < 128
      · go_wp2
        go_ret3
        have hd := Hbad.out k hk1 hlt (by rw [Hb.out]; omega)
        exact ⟨Sg.ret_sign (by rw [hd]; rfl) (by rw [hd]; rfl) (by rw [Sg.wrong_of s a hd]; rfl), rfl⟩
      · by_cases g2 : 191 < b
        · go_wp2
          go_ret3
          have hd := Hbad.out k hk1 hlt (by rw [Hb.out]; omega)
          exact ⟨Sg.ret_sign (by rw [hd]; rfl) (by rw [hd]; rfl) (by rw [Sg.wrong_of s a hd]; rfl), rfl⟩
        · go_wp2
          go_roundw
          case rel =>
            refine ⟨k + 1, R * 64 + (b - 128), by trivial, by omega, by omega, by go_num, ?_, by rw [Sg.refR_step _ _ _ hk1, ← HR.out, Hb.out], fun j h1 h2 => ?_, by omega, by omega, by omega, by omega⟩
            · rw [show ((R * 64 + (b - 128) : Nat) : Int) = (R : Int) * 64 + (b : Int) - 128 from by omega]
            · by_cases hjk : j = k
              · subst hjk
                rw [Hb.out]
                omega
              · exact Hj.out j h1 (by omega)
          case measure => simp [intOf]; omega
    · obtain rfl : k = 3 := by omega
      have hd := Hall.out Hj.out
      rw [← HR.out] at hd
      by_cases g1 : R < 2048
      · rw [if_pos (.inl g1)] at hd
        have Hd : Hid _ := hd
        clear hd
        go_wp2
        go_ret3
        exact ⟨Sg.ret_sign (by rw [Hd.out]; rfl) (by rw [Hd.out]; rfl) (by rw [Sg.wrong_of s a Hd.out]; rfl), rfl⟩
      · have g2 : ¬ 1114111 < R := by omega
        by_cases g3 : 55296 ≤ R
        · by_cases g4 : R ≤ 57343
          · rw [if_pos (.inr (.inr ⟨g3, g4⟩))] at hd
            have Hd : Hid _ := hd
            clear hd
            go_wp2
            go_ret3
            exact ⟨Sg.ret_sign (by rw [Hd.out]; rfl) (by rw [Hd.out]; rfl) (by rw [Sg.wrong_of s a Hd.out]; rfl), rfl⟩
          · rw [if_neg (by omega)] at hd
            have Hd : Hid _ := hd
            clear hd
            go_wp2
            go_ret3
            exact ⟨Sg.ret_sign (by rw [Hd.out]) (by rw [Hd.out]; rfl) (by rw [Sg.sign_right s a 3 R Hd.out (by omega)]; rfl), rfl⟩
        · rw [if_neg (by omega)] at hd
          have Hd : Hid _ := hd
          clear hd
          go_wp2
          go_ret3
          exact ⟨Sg.ret_sign (by rw [Hd.out]) (by rw [Hd.out]; rfl) (by rw [Sg.sign_right s a 3 R Hd.out (by omega)]; rfl), rfl⟩
set_option maxRecDepth 100000 in
set_option maxHeartbeats 4000000 in
theorem Tryd.refSign_short4 (s : ByteArray) (a : Nat) (ha : a < s.size) (_hs : s.size ≤ 140737488355328) (w : World) (h0 : 240 ≤ Sg.bt s a 0) (h1 : Sg.bt s a 0 ≤ 244) (hl : s.size < a + 4) :
    Calls Tryd.prog 38 #[.string s, .int .i64 a] w fun e w' => e = .returned (.tuple #[.int .i64 65533, .int .i64 1, .bool false]) ∧ w' = w := by
  rw [← Sg.bt_at0 s a ha] at h0 h1
  generalize hc : (s[a]'ha).toNat = c at h0 h1
  have hc' : (((s[a]'ha).toNat : Nat) : Int) = (c : Int) := by rw [hc]
  clear hc
  go_enter Tryd.func38, Tryd.ntmps38
  go_wp2
  go_ret3
  exact ⟨rfl, rfl⟩
set_option maxRecDepth 100000 in
set_option maxHeartbeats 4000000 in
theorem Tryd.refSign_long4 (s : ByteArray) (a : Nat) (ha : a < s.size) (_hs : s.size ≤ 140737488355328) (w : World) (h0 : 240 ≤ Sg.bt s a 0) (h1 : Sg.bt s a 0 ≤ 244) (hl : a + 4 ≤ s.size) :
    Calls Tryd.prog 38 #[.string s, .int .i64 a] w fun e w' => e = .returned (.tuple #[.int .i64 (Utf8.decode s a).1, .int .i64 (Utf8.decode s a).2, .bool (!Sg.wrongAt s a)]) ∧ w' = w := by
  have hlead : Sg.Lead 4 240 65536 (Sg.bt s a 0) := by unfold Sg.Lead; omega
  have hbad := fun k h1 h2 h3 => Sg.sign_cont s a 4 240 65536 k hlead h1 h2 h3
  have hall := Sg.sign_all s a 4 240 65536 hlead hl
  have hr1 : Sg.refR (Sg.bt s a) 240 1 = Sg.bt s a 0 - 240 := rfl
  have Hbad : Hid _ := hbad
  have Hall : Hid _ := hall
  have Hr1 : Hid _ := hr1
  have hc0 := Sg.bt_at0 s a ha
  generalize hc : Sg.bt s a 0 = c at h0 h1 hc0
  have hc' : (((s[a]'ha).toNat : Nat) : Int) = (c : Int) := by rw [hc0]
  have Hc : Hid _ := hc
  clear hc hc0 hlead hbad hall hr1
  have i0 : ¬ (c : Int) < 128 := by omega
  have i1 : (194 : Int) ≤ (c : Int) := by omega
  have i2 : ¬ (c : Int) ≤ 223 := by omega
  have i3 : (224 : Int) ≤ (c : Int) := by omega
  have i4 : ¬ (c : Int) ≤ 239 := by omega
  have i5 : (240 : Int) ≤ (c : Int) := by omega
  have i6 : (c : Int) ≤ 244 := by omega
  have il : ¬ (s.size : Int) < (a : Int) + 4 := by omega
  go_enter Tryd.func38, Tryd.ntmps38
  go_wp2
  go_loopw [9, 11] (fun r i wr => ∃ (k R : Nat), wr = w ∧ 1 ≤ k ∧ k ≤ 4 ∧ i = .int .i64 k ∧ r = .int .i64 R ∧ R = Sg.refR (Sg.bt s a) 240 k ∧ (∀ j, 1 ≤ j → j < k → 128 ≤ Sg.bt s a j ∧ Sg.bt s a j ≤ 191) ∧ (k ≤ 1 → R ≤ 31) ∧ (k ≤ 2 → R ≤ 2047) ∧ (k ≤ 3 → R ≤ 131071) ∧ R ≤ 8388607) (fun _ i _ => 4 - (intOf i).toNat)
  case atStart => exact ⟨1, c - 240, rfl, by omega, by omega, rfl, by rw [show ((c - 240 : Nat) : Int) = (c : Int) - 240 from by omega], by rw [Hr1.out, Hc.out], fun j h1 h2 => by omega, by omega, by omega, by omega, by omega⟩
  case round =>
    obtain ⟨k, R, rfl, hk1, hkn, rfl, rfl, hR, hj, r1, r2, r3, r4⟩ := hrel
    have HR : Hid _ := hR
    have Hj : Hid _ := hj
    clear hR hj
    by_cases hlt : k < 4
    · have hin : a + k < s.size := by omega
      have hbk := Sg.bt_at s a k hin
      have hb2 := Sg.bt_lt s a k
      generalize hb : Sg.bt s a k = b at hbk hb2
      have Hb : Hid _ := hb
      have hb' : (((s[a + k]'hin).toNat : Nat) : Int) = (b : Int) := by rw [hbk]
      clear hb hbk
      have e1 : ((a : Int) + (k : Int)).toNat = a + k := by omega
      by_cases g1 : b < 128
      · go_wp2
        go_ret3
        have hd := Hbad.out k hk1 hlt (by rw [Hb.out]; omega)
        exact ⟨Sg.ret_sign (by rw [hd]; rfl) (by rw [hd]; rfl) (by rw [Sg.wrong_of s a hd]; rfl), rfl⟩
      · by_cases g2 : 191 < b
        · go_wp2
          go_ret3
          have hd := Hbad.out k hk1 hlt (by rw [Hb.out]; omega)
          exact ⟨Sg.ret_sign (by rw [hd]; rfl) (by rw [hd]; rfl) (by rw [Sg.wrong_of s a hd]; rfl), rfl⟩
        · go_wp2
          go_roundw
          case rel =>
            refine ⟨k + 1, R * 64 + (b - 128), by trivial, by omega, by omega, by go_num, ?_, by rw [Sg.refR_step _ _ _ hk1, ← HR.out, Hb.out], fun j h1 h2 => ?_, by omega, by omega, by omega, by omega⟩
            · rw [show ((R * 64 + (b - 128) : Nat) : Int) = (R : Int) * 64 + (b : Int) - 128 from by omega]
            · by_cases hjk : j = k
              · subst hjk
                rw [Hb.out]
                omega
              · exact Hj.out j h1 (by omega)
          case measure => simp [intOf]; omega
    · obtain rfl : k = 4 := by omega
      have hd := Hall.out Hj.out
      rw [← HR.out] at hd
      by_cases g1 : R < 65536
      · rw [if_pos (.inl g1)] at hd
        have Hd : Hid _ := hd
        clear hd
        go_wp2
        go_ret3
        exact ⟨Sg.ret_sign (by rw [Hd.out]; rfl) (by rw [Hd.out]; rfl) (by rw [Sg.wrong_of s a Hd.out]; rfl), rfl⟩
      · by_cases g2 : 1114111 < R
        · rw [if_pos (.inr (.inl g2))] at hd
          have Hd : Hid _ := hd
          clear hd
          go_wp2
          go_ret3
          exact ⟨Sg.ret_sign (by rw [Hd.out]; rfl) (by rw [Hd.out]; rfl) (by rw [Sg.wrong_of s a Hd.out]; rfl), rfl⟩
        · have g3 : 55296 ≤ R := by omega
          have g4 : ¬ R ≤ 57343 := by omega
          rw [if_neg (by omega)] at hd
          have Hd : Hid _ := hd
          clear hd
          go_wp2
          go_ret3
          exact ⟨Sg.ret_sign (by rw [Hd.out]) (by rw [Hd.out]; rfl) (by rw [Sg.sign_right s a 4 R Hd.out (by omega)]; rfl), rfl⟩
/-- The sign at a place, whatever stands there. -/
theorem Tryd.refSign_any (s : ByteArray) (a : Nat) (ha : a < s.size) (hs : s.size ≤ 140737488355328) (w : World) :
    Calls Tryd.prog 38 #[.string s, .int .i64 a] w fun e w' => e = .returned (.tuple #[.int .i64 (Utf8.decode s a).1, .int .i64 (Utf8.decode s a).2, .bool (!Sg.wrongAt s a)]) ∧ w' = w := by
  have bad : Utf8.decode s a = (65533, 1) → (Calls Tryd.prog 38 #[.string s, .int .i64 a] w fun e w' => e = .returned (.tuple #[.int .i64 65533, .int .i64 1, .bool false]) ∧ w' = w) →
      Calls Tryd.prog 38 #[.string s, .int .i64 a] w fun e w' => e = .returned (.tuple #[.int .i64 (Utf8.decode s a).1, .int .i64 (Utf8.decode s a).2, .bool (!Sg.wrongAt s a)]) ∧ w' = w := by
    intro hd h
    rw [Sg.wrong_of s a hd, hd]
    exact h
  by_cases h0 : Sg.bt s a 0 < 128
  · exact Tryd.refSign_low s a ha hs w h0
  · by_cases h1 : Sg.bt s a 0 < 194 ∨ 244 < Sg.bt s a 0
    · exact bad (Sg.sign_nolead s a (by omega) h1) (Tryd.refSign_nolead s a ha hs w (by omega) h1)
    · by_cases h2 : Sg.bt s a 0 ≤ 223
      · by_cases hl : s.size < a + 2
        · exact bad (Sg.sign_short s a 2 192 128 (.inl ⟨rfl, rfl, rfl, by omega, h2⟩) hl) (Tryd.refSign_short2 s a ha hs w (by omega) h2 hl)
        · exact Tryd.refSign_long2 s a ha hs w (by omega) h2 (by omega)
      · by_cases h3 : Sg.bt s a 0 ≤ 239
        · by_cases hl : s.size < a + 3
          · exact bad (Sg.sign_short s a 3 224 2048 (.inr (.inl ⟨rfl, rfl, rfl, by omega, h3⟩)) hl) (Tryd.refSign_short3 s a ha hs w (by omega) h3 hl)
          · exact Tryd.refSign_long3 s a ha hs w (by omega) h3 (by omega)
        · by_cases hl : s.size < a + 4
          · exact bad (Sg.sign_short s a 4 240 65536 (.inr (.inr ⟨rfl, rfl, rfl, by omega, by omega⟩)) hl) (Tryd.refSign_short4 s a ha hs w (by omega) (by omega) hl)
          · exact Tryd.refSign_long4 s a ha hs w (by omega) (by omega) (by omega)
end Go.Proofs
