import Derived.Test.YtaigcmlalnegpaaDoorLawKeeps
import Derived.Test.YtaigcmlalnegpaaDoorMath7
namespace Go.Proofs
open Go.RowKit
theorem Sg.three_alt (a p b : ByteArray) : (((a ++ ({ data := #[32] } : ByteArray)) ++ p) ++ ({ data := #[32] } : ByteArray)) ++ b = Sg.three a p b := by
  apply ByteArray.ext
  apply Array.ext'
  show ((((a ++ Sg.blank) ++ p) ++ Sg.blank) ++ b).data.toList = (a ++ (Sg.blank ++ (p ++ (Sg.blank ++ b)))).data.toList
  rw [Sg.app_list, Sg.app_list, Sg.app_list, Sg.app_list, Sg.app_list, Sg.app_list, Sg.app_list, Sg.app_list]
  simp only [List.append_assoc]
def Sg.u1 : ByteArray := ⟨#[120, 119, 111, 114, 100, 120]⟩
def Sg.u2 : ByteArray := ⟨#[119, 111, 114, 100]⟩
theorem Sg.k10 : Sg.hasB Sg.u1 Sg.u2 = false := by decide +kernel
theorem Tryd.sc10 (w : World) (hT : Tryd.Tabs w) : Calls Tryd.prog 16 #[.string { data := #[120, 119, 111, 114, 100, 120] }, .string { data := #[119, 111, 114, 100] }] w fun e w' => e = .returned (.bool false) ∧ Below w.heap.size w w' := by
  have := Tryd.has_any Sg.u1 Sg.u2 w hT (by decide +kernel) (by decide +kernel)
  rw [Sg.k10] at this
  exact this
theorem Tryd.sc11 (a : ByteArray) (ha : a.size ≤ 300) (w : World) (hT : Tryd.Tabs w) : Calls Tryd.prog 16 #[.string a, .string { data := #[] }] w fun e w' => e = .returned (.bool false) ∧ Below w.heap.size w w' := by
  have := Tryd.has_any a ⟨#[]⟩ w hT (by omega) (by decide +kernel)
  rw [show Sg.hasB a ⟨#[]⟩ = false from if_pos rfl] at this
  exact this
set_option maxHeartbeats 4000000 in
set_option maxRecDepth 100000 in
theorem Tryd.finds_small (a0 p0 d0 a p d : ByteArray) (ha : a.size ≤ 300) (hp : p.size ≤ 300) (hd : d.size ≤ 300)
    (c1 : ∀ w, Calls Tryd.prog 10 #[.string a0, .int .i64 300] w fun e w' => e = .returned (.string a) ∧ w' = w)
    (c2 : ∀ w, Calls Tryd.prog 10 #[.string d0, .int .i64 300] w fun e w' => e = .returned (.string d) ∧ w' = w)
    (c3 : ∀ w, Calls Tryd.prog 10 #[.string p0, .int .i64 300] w fun e w' => e = .returned (.string p) ∧ w' = w) (w : World) (hT : Tryd.Tabs w) :
    Calls Tryd.prog 5 #[.string a0, .string p0, .string d0] w fun e w' => e = .returned (.bool true) ∧ Below w.heap.size w w' := by
  have c0 := fun w hT => Tryd.shown_any w hT
  have c4 := fun w hT => Tryd.sc11 a ha w hT
  have C0 : Hid _ := c0
  have C1 : Hid _ := c1
  have C2 : Hid _ := c2
  have C3 : Hid _ := c3
  have C4 : Hid _ := c4
  clear c0 c1 c2 c3 c4
  by_cases h0 : p.size = 0
  · have hne : p.toList.isEmpty = true := by
      rw [Lib.toList_data]
      have : p.data.toList = [] := List.eq_nil_of_length_eq_zero (by rw [← Lib.size_eq]; exact h0)
      rw [this]; rfl
    go_enter Tryd.func5, Tryd.ntmps5
    go_wp2_with fail
    refine (C0.out _ hT).mono ?_
    rintro e w1 ⟨rfl, b1⟩
    have T1 := hT.below b1
    go_wp2_with fail
    refine (C1.out _).mono ?_
    rintro e w1' ⟨rfl, rfl⟩
    go_wp2_with fail
    refine (C2.out _).mono ?_
    rintro e w1' ⟨rfl, rfl⟩
    go_wp2_with fail
    refine (C3.out _).mono ?_
    rintro e w1' ⟨rfl, rfl⟩
    go_wp2_with fail
    refine (C4.out _ T1).mono ?_
    rintro e w2 ⟨rfl, b2⟩
    replace b2 := b1.trans (b2.mono b1.size)
    go_wp2_with fail
    go_ret
    exact ⟨rfl, b2⟩
  · have hne : p.toList.isEmpty = false := by
      rw [Lib.toList_data]
      cases h : p.data.toList with
      | nil => exact absurd (by rw [Lib.size_eq, h]; rfl) h0
      | cons _ _ => rfl
    have z1 : (((a ++ ({ data := #[32] } : ByteArray)) ++ p) ++ ({ data := #[32] } : ByteArray)) ++ d = Sg.three a p d := Sg.three_alt a p d
    have s1 := Sg.three_size a p d
    have s2 := Sg.fold_size (Sg.three a p d)
    have s3 := Sg.fold_size p
    have s4 : (p ++ ({ data := #[120] } : ByteArray)).size = p.size + 1 := by rw [Sg.app_size]; rfl
    have f1 := fun w hT => Tryd.has_any p p w hT (by omega) (by omega)
    rw [Sg.has_self p h0] at f1
    have f2 := fun w hT => Tryd.has_any (Sg.three a p d) p w hT (by omega) (by omega)
    rw [Sg.has_three a p d h0] at f2
    have f3 := fun w hT => Tryd.fold_any (Sg.three a p d) w (by omega) hT
    have f4 := fun w hT => Tryd.has_any (Sg.fold (Sg.three a p d)) p w hT (by omega) (by omega)
    rw [Sg.has_fold_text _ p h0, Sg.has_three a p d h0] at f4
    have f5 := fun w hT => Tryd.fold_any p w (by omega) hT
    have f6 := fun w hT => Tryd.has_any (Sg.three a p d) (Sg.fold p) w hT (by omega) (by omega)
    rw [Sg.has_fold_part _ p h0, Sg.has_three a p d h0] at f6
    have f7 := fun w hT => Tryd.has_any p (p ++ ({ data := #[120] } : ByteArray)) w hT (by omega) (by omega)
    rw [Sg.has_long p _ (by omega)] at f7
    have f8 := fun w hT => Tryd.sc10 w hT
    generalize Sg.fold (Sg.three a p d) = ft at *
    generalize Sg.fold p = fp at *
    rw [← z1] at f2 f3 f6
    have g1 : (a ++ ({ data := #[32] } : ByteArray)).size ≤ 301 := by rw [Sg.app_size]; show a.size + 1 ≤ 301; omega
    have g2 : ((a ++ ({ data := #[32] } : ByteArray)) ++ p).size ≤ 601 := by rw [Sg.app_size]; omega
    have g3 : (((a ++ ({ data := #[32] } : ByteArray)) ++ p) ++ ({ data := #[32] } : ByteArray)).size ≤ 602 := by rw [Sg.app_size]; show _ + 1 ≤ _; omega
    have g4 : ((((a ++ ({ data := #[32] } : ByteArray)) ++ p) ++ ({ data := #[32] } : ByteArray)) ++ d).size ≤ 902 := by rw [Sg.app_size]; omega
    have F1 : Hid _ := f1
    have F2 : Hid _ := f2
    have F3 : Hid _ := f3
    have F4 : Hid _ := f4
    have F5 : Hid _ := f5
    have F6 : Hid _ := f6
    have F7 : Hid _ := f7
    have F8 : Hid _ := f8
    have s5 : (p ++ ({ data := #[120] } : ByteArray)).size ≤ 301 := by omega
    clear f1 f2 f3 f4 f5 f6 f7 f8 z1 s1 s2 s3 s4
    go_enter Tryd.func5, Tryd.ntmps5
    go_wp2_with fail
    refine (C0.out _ hT).mono ?_
    rintro e w1 ⟨rfl, b1⟩
    have T1 := hT.below b1
    go_wp2_with fail
    refine (C1.out _).mono ?_
    rintro e w1' ⟨rfl, rfl⟩
    go_wp2_with fail
    refine (C2.out _).mono ?_
    rintro e w1' ⟨rfl, rfl⟩
    go_wp2_with fail
    refine (C3.out _).mono ?_
    rintro e w1' ⟨rfl, rfl⟩
    go_wp2_with fail
    refine (C4.out _ T1).mono ?_
    rintro e w2 ⟨rfl, b2⟩
    have T2 := T1.below b2
    replace b2 := b1.trans (b2.mono b1.size)
    go_wp2_with fail
    refine (F1.out _ T2).mono ?_
    rintro e w3 ⟨rfl, b3⟩
    have T3 := T2.below b3
    replace b3 := b2.trans (b3.mono b2.size)
    clear T1 T2 b1 b2
    go_wp2_with fail
    refine (F2.out _ T3).mono ?_
    rintro e w4 ⟨rfl, b4⟩
    have T4 := T3.below b4
    replace b4 := b3.trans (b4.mono b3.size)
    clear T3 b3
    go_wp2_with fail
    refine (F3.out _ T4).mono ?_
    rintro e w5 ⟨rfl, b5⟩
    have T5 := T4.below b5
    replace b5 := b4.trans (b5.mono b4.size)
    clear T4 b4
    go_wp2_with fail
    refine (F4.out _ T5).mono ?_
    rintro e w6 ⟨rfl, b6⟩
    have T6 := T5.below b6
    replace b6 := b5.trans (b6.mono b5.size)
    clear T5 b5
    go_wp2_with fail
    refine (F5.out _ T6).mono ?_
    rintro e w7 ⟨rfl, b7⟩
    have T7 := T6.below b7
    replace b7 := b6.trans (b7.mono b6.size)
    clear T6 b6
    go_wp2_with fail
    refine (F6.out _ T7).mono ?_
    rintro e w8 ⟨rfl, b8⟩
    have T8 := T7.below b8
    replace b8 := b7.trans (b8.mono b7.size)
    clear T7 b7
    go_wp2_with fail
    refine (F7.out _ T8).mono ?_
    rintro e w9 ⟨rfl, b9⟩
    have T9 := T8.below b9
    replace b9 := b8.trans (b9.mono b8.size)
    clear T8 b8
    go_wp2_with fail
    refine (F8.out _ T9).mono ?_
    rintro e w10 ⟨rfl, b10⟩
    replace b10 := b9.trans (b10.mono b9.size)
    go_wp2_with fail
    go_ret
    exact ⟨rfl, b10⟩
theorem Tryd.signFindsWalk (a : ByteArray) (ha : a.size ≤ 140737488351232) (p : ByteArray) (hp : p.size ≤ 140737488351232) (b : ByteArray) (hb : b.size ≤ 140737488351232) (w : World) (hT : Tryd.Tabs w) :
    Calls Tryd.prog 5 #[.string a, .string p, .string b] w fun e w' => e = .returned (.bool true) ∧ Below w.heap.size w w' :=
  Tryd.finds_small a p b (Sg.cut a) (Sg.cut p) (Sg.cut b) (Sg.cut_size a) (Sg.cut_size p) (Sg.cut_size b) (fun w => Tryd.upTo_any a (by unfold maxLen; omega) w) (fun w => Tryd.upTo_any b (by unfold maxLen; omega) w) (fun w => Tryd.upTo_any p (by unfold maxLen; omega) w) w hT
end Go.Proofs
