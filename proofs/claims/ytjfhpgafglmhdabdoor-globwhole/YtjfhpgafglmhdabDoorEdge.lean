import Derived.Test.YtjfhpgafglmhdabDoorFold2
namespace Go.Proofs
open Go.RowKit
theorem Tryd.dec_any (s : ByteArray) (k : Nat) (h : k < s.size) (w : World) (hT : Tryd.Tabs w) :
    Calls Tryd.prog 51 #[.string (s.extract k s.size)] w fun e w' => e = .returned (.tuple #[.int .i32 (Utf8.decode s k).1, .int .i64 (Utf8.decode s k).2]) ∧ Below w.heap.size w w' := by
  have := Tryd.utf8_DecodeRuneInString (s.extract k s.size) w hT.2
  rw [Sg.decodeGo_tail s k h] at this
  exact this
set_option maxHeartbeats 4000000 in
theorem Tryd.within_any (s : ByteArray) (a : Nat) (ha : a ≤ s.size) (hs : s.size ≤ maxLen) (w : World) (hT : Tryd.Tabs w) :
    Calls Tryd.prog 49 #[.string s, .int .i64 a] w fun e w' => e = .returned (.bool (Sg.withinB s a)) ∧ Below w.heap.size w w' := by
  unfold maxLen at hs
  go_enter Tryd.func49, Tryd.ntmps49
  go_wp2
  go_loopw [5] (fun i wr => ∃ k : Nat, k ≤ a ∧ i = .int .i64 k ∧ Below w.heap.size w wr ∧ Sg.withinGo s a (a - k) k = Sg.withinB s a) (fun i _ => a - (intOf i).toNat)
  case atStart => exact ⟨a - 3, by omega, by rw [show max 0 ((a : Int) - 4 + 1) = ((a - 3 : Nat) : Int) from by omega], Below.refl _ _, rfl⟩
  case round =>
    obtain ⟨k, hk, rfl, hb, hx⟩ := hrel
    by_cases hlt : k < a
    · rw [Sg.withinGo_at s a k hlt] at hx
      have hc := fun w hT => Tryd.dec_any s k (by omega) w hT
      have hwi := Sg.decode_in s k (by omega)
      have Hc : Hid _ := hc
      have Hx : Hid _ := hx
      clear hc hx
      by_cases hin : a < k + (Utf8.decode s k).2
      · go_wp2_with (go_at_call 51; refine (Hc.out _ (hT.below hb)).mono ?_; rintro e w' ⟨rfl, hb'⟩)
        go_ret
        exact ⟨Sg.ret_bool (by rw [← Hx.out, if_pos hin]), hb.trans (hb'.mono hb.size)⟩
      · go_wp2_with (go_at_call 51; refine (Hc.out _ (hT.below hb)).mono ?_; rintro e w' ⟨rfl, hb'⟩)
        go_roundw
        case rel => exact ⟨k + 1, by omega, by go_num, hb.trans (hb'.mono hb.size), by rw [← Hx.out, if_neg (by omega)]⟩
        case measure => simp [intOf]; omega
    · have hka : k = a := by omega
      subst hka
      have Hx : Hid _ := hx
      clear hx
      go_wp2
      go_ret
      exact ⟨Sg.ret_bool (by rw [← Hx.out]; simp [Sg.withinGo]), hb⟩
theorem Tryd.edge_out (s : ByteArray) (a : Int) (ha : a < 0 ∨ (s.size : Int) < a) (_hs : s.size ≤ maxLen) (w : World) :
    Calls Tryd.prog 35 #[.string s, .int .i64 a] w fun e w' => e = .returned (.bool false) ∧ w' = w := by
  unfold maxLen at _hs
  by_cases h0 : a < 0
  · go_enter Tryd.func35, Tryd.ntmps35
    go_wp2_with fail
    go_ret
    exact ⟨rfl, rfl⟩
  · have h1 : (s.size : Int) < a := by omega
    clear ha
    go_enter Tryd.func35, Tryd.ntmps35
    go_wp2_with fail
    go_ret
    exact ⟨rfl, rfl⟩
set_option maxHeartbeats 4000000 in
theorem Tryd.edge_in (s : ByteArray) (a : Nat) (ha : a ≤ s.size) (hs : s.size ≤ maxLen) (w : World) (hT : Tryd.Tabs w) :
    Calls Tryd.prog 35 #[.string s, .int .i64 a] w fun e w' => e = .returned (.bool (Sg.edgeN s a)) ∧ Below w.heap.size w w' := by
  have hc1 := fun w hT => Tryd.within_any s a ha hs w hT
  unfold maxLen at hs
  have n1 : ¬ ((a : Int) < 0) := by omega
  have n2 : ¬ ((s.size : Int) < (a : Int)) := by omega
  cases hw : Sg.withinB s a with
  | true =>
    rw [hw] at hc1
    have e : Sg.edgeN s a = false := by simp [Sg.edgeN, hw]
    rw [e]
    have Hc1 : Hid _ := hc1
    clear hc1 e hw
    go_enter Tryd.func35, Tryd.ntmps35
    go_wp2_with (go_at_call 49; refine (Hc1.out _ hT).mono ?_; rintro e w' ⟨rfl, hb'⟩)
    go_ret
    exact ⟨rfl, hb'⟩
  | false =>
    rw [hw] at hc1
    by_cases hz : a = 0 ∨ a = s.size
    · have e : Sg.edgeN s a = true := by simp [Sg.edgeN, hw, hz]
      rw [e]
      have Hc1 : Hid _ := hc1
      clear hc1 e hw
      rcases hz with rfl | rfl
      · go_enter Tryd.func35, Tryd.ntmps35
        go_wp2_with (go_at_call 49; refine (Hc1.out _ hT).mono ?_; rintro e w' ⟨rfl, hb'⟩)
        go_ret
        exact ⟨rfl, hb'⟩
      · go_enter Tryd.func35, Tryd.ntmps35
        go_wp2_with (go_at_call 49; refine (Hc1.out _ hT).mono ?_; rintro e w' ⟨rfl, hb'⟩)
        all_goals go_ret
        all_goals exact ⟨rfl, hb'⟩
    · have e : Sg.edgeN s a = (!Sg.wordB (Lib.decodeLastL (s.extract 0 a).data.toList).1 || !Sg.wordB (Utf8.decode s a).1) := by simp [Sg.edgeN, hw, hz]
      rw [e]
      have hc2 := fun w hT => Tryd.utf8_DecodeLastRuneInString (s.extract 0 a) w (by rw [ByteArray.size_extract]; omega) hT
      have hc3 := fun w hT => Tryd.dec_any s a (by omega) w hT
      have m1 : ((a : Int) == 0) = false := beq_eq_false_iff_ne.2 (by omega)
      have m2 : ((a : Int) == (s.size : Int)) = false := beq_eq_false_iff_ne.2 (by omega)
      generalize (Lib.decodeLastL (s.extract 0 a).data.toList) = d1 at hc2 ⊢
      generalize Utf8.decode s a = d2 at hc3 ⊢
      have hc4 := Tryd.isWord_any (d1.1 : Int)
      have hc5 := Tryd.isWord_any (d2.1 : Int)
      have hal : a < s.size := by omega
      generalize Sg.wordB (d1.1 : Int) = b1 at hc4 ⊢
      generalize Sg.wordB (d2.1 : Int) = b2 at hc5 ⊢
      have Hc1 : Hid _ := hc1
      have Hc2 : Hid _ := hc2
      have Hc3 : Hid _ := hc3
      have Hc4 : Hid _ := hc4
      have Hc5 : Hid _ := hc5
      clear hc1 hc2 hc3 hc4 hc5 e hw hz
      cases b1 with
      | false =>
        go_enter Tryd.func35, Tryd.ntmps35
        go_wp2_with (go_at_call 49; refine (Hc1.out _ hT).mono ?_; rintro e w1 ⟨rfl, hb1⟩)
        refine (Hc2.out _ (hT.below hb1).2).mono ?_
        rintro e w2 ⟨rfl, hb2⟩
        go_wp2_with fail
        refine (Hc3.out _ ((hT.below hb1).below hb2)).mono ?_
        rintro e w3 ⟨rfl, hb3⟩
        go_wp2_with fail
        refine (Hc4.out _).mono ?_
        rintro e w4 ⟨rfl, rfl⟩
        go_wp2_with fail
        go_ret
        exact ⟨rfl, (hb1.trans (hb2.mono hb1.size)).trans (hb3.mono (Nat.le_trans hb1.size hb2.size))⟩
      | true =>
        go_enter Tryd.func35, Tryd.ntmps35
        go_wp2_with (go_at_call 49; refine (Hc1.out _ hT).mono ?_; rintro e w1 ⟨rfl, hb1⟩)
        refine (Hc2.out _ (hT.below hb1).2).mono ?_
        rintro e w2 ⟨rfl, hb2⟩
        go_wp2_with fail
        refine (Hc3.out _ ((hT.below hb1).below hb2)).mono ?_
        rintro e w3 ⟨rfl, hb3⟩
        go_wp2_with fail
        refine (Hc4.out _).mono ?_
        rintro e w4 ⟨rfl, rfl⟩
        go_wp2_with fail
        refine (Hc5.out _).mono ?_
        rintro e w5 ⟨rfl, rfl⟩
        go_wp2_with fail
        go_ret
        exact ⟨rfl, (hb1.trans (hb2.mono hb1.size)).trans (hb3.mono (Nat.le_trans hb1.size hb2.size))⟩
theorem Tryd.edge_any (s : ByteArray) (a : Int) (hs : s.size ≤ maxLen) (w : World) (hT : Tryd.Tabs w) :
    Calls Tryd.prog 35 #[.string s, .int .i64 a] w fun e w' => e = .returned (.bool (Sg.edgeB s a)) ∧ Below w.heap.size w w' := by
  unfold Sg.edgeB
  by_cases h : a < 0 ∨ (s.size : Int) < a
  · rw [if_pos h]
    exact (Tryd.edge_out s a h hs w).mono fun e w' ⟨he, hw⟩ => ⟨he, by rw [hw]; exact Below.refl _ _⟩
  · rw [if_neg h]
    obtain ⟨n, rfl⟩ : ∃ n : Nat, a = n := ⟨a.toNat, by omega⟩
    exact Tryd.edge_in s n (by omega) hs w hT
end Go.Proofs
