import Derived.Test.YtaigcmlalnegpaaDoorShown
import Derived.Test.YtaigcmlalnegpaaDoorMath6
namespace Go.Proofs
open Go.RowKit
def Sg.cut (s : ByteArray) : ByteArray := if 300 < s.size then s.extract 0 300 else s
theorem Sg.cut_size (s : ByteArray) : (Sg.cut s).size ≤ 300 := by
  unfold Sg.cut
  split
  · rw [ByteArray.size_extract]; omega
  · omega
theorem Tryd.upTo_any (s : ByteArray) (_hs : s.size ≤ maxLen) (w : World) :
    Calls Tryd.prog 10 #[.string s, .int .i64 300] w fun e w' => e = .returned (.string (Sg.cut s)) ∧ w' = w := by
  unfold maxLen at _hs
  unfold Sg.cut
  by_cases h : 300 < s.size
  · rw [if_pos h]
    have h' : (300 : Int) < (s.size : Int) := by omega
    go_enter Tryd.func10, Tryd.ntmps10
    go_wp2
    go_ret
    exact ⟨rfl, rfl⟩
  · rw [if_neg h]
    have h' : ¬ (300 : Int) < (s.size : Int) := by omega
    go_enter Tryd.func10, Tryd.ntmps10
    go_wp2
    go_ret
    exact ⟨rfl, rfl⟩
set_option maxHeartbeats 4000000 in
set_option maxRecDepth 100000 in
theorem Tryd.keeps_small (s0 t0 s t : ByteArray) (hs : s.size ≤ 300) (ht : t.size ≤ 300) (c1 : ∀ w, Calls Tryd.prog 10 #[.string s0, .int .i64 300] w fun e w' => e = .returned (.string s) ∧ w' = w)
    (c2 : ∀ w, Calls Tryd.prog 10 #[.string t0, .int .i64 300] w fun e w' => e = .returned (.string t) ∧ w' = w) (w : World) (hT : Tryd.Tabs w) :
    Calls Tryd.prog 3 #[.string s0, .string t0] w fun e w' => e = .returned (.bool true) ∧ Below w.heap.size w w' := by
  have c0 := fun w hT => Tryd.shown_any w hT
  have f1 := fun w hT => Tryd.fold_any s w (by omega) hT
  have f2 := fun w hT => Tryd.fold_any (Sg.fold s) w (by rw [Sg.fold_size]; omega) hT
  have f3 := fun w => Tryd.valid_any (Sg.fold s) w (by rw [Sg.fold_size]; unfold maxLen; omega)
  have f4 := fun w => Tryd.valid_any s w (by unfold maxLen; omega)
  have f5 := fun w hT => Tryd.fold_any (s ++ t) w (by rw [Sg.app_size]; omega) hT
  have f6 := fun w hT => Tryd.fold_any t w (by omega) hT
  have e1 := fun a w hT => Tryd.edge_any s a (by unfold maxLen; omega) w hT
  have e2 := fun a w hT => Tryd.edge_any (Sg.fold s) a (by rw [Sg.fold_size]; unfold maxLen; omega) w hT
  rw [Sg.fold_fold] at f2
  rw [Sg.valid_fold] at f3
  have hee : ∀ a : Nat, a ≤ s.size → Sg.edgeB (Sg.fold s) (a : Int) = Sg.edgeB s (a : Int) := fun a ha => by
    rw [Sg.edgeB_nat s a ha, Sg.edgeB_nat (Sg.fold s) a (by rw [Sg.fold_size]; exact ha), Sg.edge_fold s a ha]
  have hfs := Sg.fold_size s
  have hf3 : (Sg.fold s).size ≤ 300 := by rw [Sg.fold_size]; exact hs
  have hg3 : (Sg.fold t).size ≤ 300 := by rw [Sg.fold_size]; exact ht
  have happ : Sg.valid s = true → Sg.fold (s ++ t) = Sg.fold s ++ Sg.fold t := Sg.fold_app s t
  generalize Sg.fold s = f at *
  generalize Sg.fold t = g at *
  generalize Sg.fold (s ++ t) = fg at *
  generalize Sg.valid s = v at *
  have C0 : Hid _ := c0
  have C1 : Hid _ := c1
  have C2 : Hid _ := c2
  have F1 : Hid _ := f1
  have F2 : Hid _ := f2
  have F3 : Hid _ := f3
  have F4 : Hid _ := f4
  have F5 : Hid _ := f5
  have F6 : Hid _ := f6
  have E1 : Hid _ := e1
  have E2 : Hid _ := e2
  have Hee : Hid _ := hee
  have Happ : Hid _ := happ
  have n1 : ((f.size : Int) != (s.size : Int)) = false := by rw [hfs]; simp
  clear c0 c1 c2 f1 f2 f3 f4 f5 f6 e1 e2 hee happ hfs
  go_enter Tryd.func3, Tryd.ntmps3
  go_wp2_with fail
  refine (C0.out _ hT).mono ?_
  rintro e w1 ⟨rfl, b1⟩
  have T1 := hT.below b1
  go_wp2_with fail
  refine (C1.out _).mono ?_
  rintro e w1' ⟨rfl, rfl⟩
  go_wp2_with fail
  refine (C2.out _).mono ?_
  rintro e w1' ⟨rfl, rfl⟩
  go_wp2_with fail
  refine (F1.out _ T1).mono ?_
  rintro e w2 ⟨rfl, b2⟩
  have T2 := T1.below b2
  replace b2 := b1.trans (b2.mono b1.size)
  go_wp2_with fail
  refine (F2.out _ T2).mono ?_
  rintro e w3 ⟨rfl, b3⟩
  have T3 := T2.below b3
  replace b3 := b2.trans (b3.mono b2.size)
  go_wp2_with fail
  refine (F3.out _).mono ?_
  rintro e w4 ⟨rfl, b4⟩
  have T4 := T3.below b4
  replace b4 := b3.trans (b4.mono b3.size)
  go_wp2_with fail
  refine (F4.out _).mono ?_
  rintro e w5 ⟨rfl, b5⟩
  replace b5 := b4.trans (b5.mono b4.size)
  clear b1 b2 b3 b4 T1 T2 T3 T4
  go_wp2_with fail
  go_loopw [7] (fun i wr => ∃ k : Nat, k ≤ s.size + 1 ∧ i = .int .i64 k ∧ Below w.heap.size w wr) (fun i _ => s.size + 1 - (intOf i).toNat)
  case atStart => exact ⟨0, Nat.zero_le _, rfl, b5⟩
  case round =>
    obtain ⟨k, hk, rfl, hb⟩ := hrel
    clear b5
    by_cases hlt : k ≤ s.size
    · have e1 := fun w hT => E1.out (k : Int) w hT
      have e2 := fun w hT => E2.out (k : Int) w hT
      rw [Hee.out k hlt] at e2
      generalize Sg.edgeB s (k : Int) = q at e1 e2
      have G1 : Hid _ := e1
      have G2 : Hid _ := e2
      clear e1 e2
      have i1 : (k : Int) ≤ (s.size : Int) := by omega
      go_wp2_with fail
      refine (G1.out _ (hT.below hb)).mono ?_
      rintro e w6 ⟨rfl, b6⟩
      have T6 := (hT.below hb).below b6
      replace b6 := hb.trans (b6.mono hb.size)
      go_wp2_with fail
      refine (G2.out _ T6).mono ?_
      rintro e w7 ⟨rfl, b7⟩
      replace b7 := b6.trans (b7.mono b6.size)
      clear b6 T6
      go_wp2_with fail
      go_roundw
      case rel => exact ⟨k + 1, by omega, by go_num, b7⟩
      case measure => simp [intOf]; omega
    · have i1 : ¬ (k : Int) ≤ (s.size : Int) := by omega
      cases v with
      | false =>
        go_wp2_with fail
        refine (F4.out _).mono ?_
        rintro e w6 ⟨rfl, b6⟩
        replace b6 := hb.trans (b6.mono hb.size)
        go_wp2_with fail
        go_ret
        exact ⟨rfl, b6⟩
      | true =>
        have hfg : Hid _ := Happ.out rfl
        go_wp2_with fail
        refine (F4.out _).mono ?_
        rintro e w6 ⟨rfl, b6⟩
        have T6 := (hT.below hb).below b6
        replace b6 := hb.trans (b6.mono hb.size)
        go_wp2_with fail
        refine (F5.out _ T6).mono ?_
        rintro e w7 ⟨rfl, b7⟩
        have T7 := T6.below b7
        replace b7 := b6.trans (b7.mono b6.size)
        go_wp2_with fail
        refine (F6.out _ T7).mono ?_
        rintro e w8 ⟨rfl, b8⟩
        replace b8 := b7.trans (b8.mono b7.size)
        go_wp2_with fail
        go_ret
        exact ⟨Sg.ret_bool (by rw [hfg.out]; simp), b8⟩
theorem Tryd.signKeepsWalk (s : ByteArray) (hs : s.size ≤ 140737488351232) (t : ByteArray) (ht : t.size ≤ 140737488351232) (w : World) (hT : Tryd.Tabs w) :
    Calls Tryd.prog 3 #[.string s, .string t] w fun e w' => e = .returned (.bool true) ∧ Below w.heap.size w w' :=
  Tryd.keeps_small s t (Sg.cut s) (Sg.cut t) (Sg.cut_size s) (Sg.cut_size t) (fun w => Tryd.upTo_any s (by unfold maxLen; omega) w) (fun w => Tryd.upTo_any t (by unfold maxLen; omega) w) w hT
end Go.Proofs
