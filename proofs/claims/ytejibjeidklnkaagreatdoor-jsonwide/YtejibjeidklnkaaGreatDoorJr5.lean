/-
  The reader's 'sign', 'begin', 'escape'.
-/
import Derived.Test.YtejibjeidklnkaaGreatDoorJr4
import Derived.Test.YtejibjeidklnkaaGreatDoorJt
import Derived.Test.YtejibjeidklnkaaGreatDoorMath1
namespace Go.Proofs
open Go.RowKit Go.Jv
theorem Jv.extract_get (t : ByteArray) (p k : Nat) (h : p + k < t.size) : (t.extract p t.size).get! k = t.get! (p + k) := by
  have h2 : k < (t.extract p t.size).size := by rw [ByteArray.size_extract]; omega
  rw [← Jv.get_eq _ k h2, ← Jv.get_eq t (p + k) h]
  simp [ByteArray.getElem_extract]
theorem Jv.fullAt_eq (t : ByteArray) (p : Nat) (h : p < t.size) : fullN (t.extract p t.size).size ((t.extract p t.size).get! 0).toNat ((t.extract p t.size).get! 1).toNat ((t.extract p t.size).get! 2).toNat = fullAt t p := by
  have hz : (t.extract p t.size).size = t.size - p := by rw [ByteArray.size_extract]; omega
  rw [hz, Jv.extract_get t p 0 (by omega)]
  unfold fullAt fullN
  by_cases h1 : p + 1 < t.size
  · rw [Jv.extract_get t p 1 h1]
    by_cases h2 : p + 2 < t.size
    · rw [Jv.extract_get t p 2 h2]; rfl
    · have e : ∀ c : Nat, (2 < t.size - p ∧ (c < 128 ∨ 191 < c)) = False := fun c => by simp; omega
      simp only [e, Nat.add_zero]
  · have e : ∀ c d : Nat, (2 < t.size - p ∧ (c < 128 ∨ 191 < c)) = False := fun c d => by simp; omega
    have e1 : ∀ a c d : Nat, (1 < t.size - p ∧ (c < a ∨ d < c)) = False := fun a c d => by simp; omega
    simp only [e _ 0, e1, Nat.add_zero]
theorem Jv.decodeGo_tail (s : ByteArray) (k : Nat) (h : k < s.size) : Lib.decodeGo (s.extract k s.size) = Utf8.decode s k := by
  unfold Lib.decodeGo
  rw [if_neg (by rw [ByteArray.size_extract]; omega), Lib.tail_decode, Nat.add_zero]
theorem Jv.signAt_ok {t : ByteArray} {p r q : Nat} (h : signAt t p = .ok (r, q)) (hp : p < t.size) : r ≤ 1114111 ∧ p < q ∧ q ≤ t.size := by
  unfold signAt at h
  split at h
  · cases h
  · split at h
    · cases h
    · next hw =>
      have hc := Sg.decode_cls t p (by unfold Sg.wrongAt; simp [hw])
      have hi := Sg.decode_in t p hp
      injection h with h
      injection h with h1 h2
      unfold Sg.Cls at hc
      omega
theorem Tryz.begin_ok {w : World} {b : Nat} {t : ByteArray} {p o : Nat} (h : Rd w b t p o) (hlt : p < t.size) (ho10 : o < 10) :
    Calls Tryz.prog 45 #[.pointer (some ⟨b, 0, none⟩)] w fun en w' => en = .returned (.tuple #[]) ∧ Rd w' b t (p + 1) (o + 1) ∧ Wk b w w' := by
  have H0 : Hid (Rd w b t p o) := h
  obtain ⟨c0, c1, c2, f0, f1, f2, hb, hp, ht, ho⟩ := h
  go_enter Tryz.func45, Tryz.ntmps45
  go_wp2
  go_end0
  exact ⟨rfl, (H0.out.openN 0 (o + 1) _ (by omega) (by omega)).at0 _ _ (by omega) hlt, ((Wk.refl b w).setCell _ _ _).setCell _ _ _⟩
theorem Tryz.begin_bad {w : World} {b : Nat} {t : ByteArray} {p : Nat} (h : Rd w b t p 10) :
    Calls Tryz.prog 45 #[.pointer (some ⟨b, 0, none⟩)] w fun en w' => Bad 40 p eDepth en w' ∧ Wk b w w' := by
  obtain ⟨c0, c1, c2, f0, f1, f2, hb, hp, ht, ho⟩ := h
  go_enter Tryz.func45, Tryz.ntmps45
  go_wp2_with (go_at_call 12; refine (Tryz.fault_any _ _ _).mono ?_; rintro e w' ⟨rfl, rfl⟩)
  exact ⟨rfl, Jv.bad_new (n := 0) hb⟩
theorem Tryz.sign_any {w : World} {b : Nat} {t : ByteArray} {p o : Nat} (h : Rd w b t p o) (hlt : p < t.size) (hT : Tryz.Tb w) (_hbg : 8 ≤ b) :
    Calls Tryz.prog 44 #[.pointer (some ⟨b, 0, none⟩)] w fun en w' =>
      (∃ r q, signAt t p = .ok (r, q) ∧ en = .returned (.int .i32 r) ∧ Rd w' b t q o ∧ Wk b w w') ∨ (∃ p' e, signAt t p = .bad p' e ∧ Bad 40 p' e en w' ∧ Wk b w w') := by
  have hF := Tryz.fullRune_any (t.extract p t.size)
  rw [Jv.fullAt_eq t p hlt] at hF
  have hD := Tryz.utf8_DecodeRuneInString (t.extract p t.size)
  rw [Jv.decodeGo_tail t p hlt] at hD
  have hz : (t.extract p t.size).size = t.size - p := by rw [ByteArray.size_extract]; omega
  have H0 : Hid (Rd w b t p o) := h
  obtain ⟨c0, c1, c2, f0, f1, f2, hb, hp, ht, ho⟩ := h
  have hF0 := fun w => hF w (by omega) (by omega)
  clear hF
  cases hf : fullAt t p with
  | false =>
    have hS : signAt t p = .bad t.size eSyntax := by unfold signAt; rw [if_pos hf]
    have HS : Hid (signAt t p = .bad t.size eSyntax) := hS
    rw [hf] at hF0
    clear hf hz hD hS
    go_enter Tryz.func44, Tryz.ntmps44
    go_wp2
    go_quiet (fail)
    go_wp2_with (first | (go_at_call 60; refine (hF0 _ (hT.drewN _).here.u8).mono ?_; rintro e w1 ⟨rfl, hb1⟩; have hR1 := (H0.out.drewN _).below hb1; have hW1 := ((Wk.refl b w).drewN _).below hb1 (Nat.le_refl _); obtain ⟨d0, d1, d2, g0, g1, g2, hbb, -, -, -⟩ := hR1) | (go_at_call 12; refine (Tryz.fault_any _ _ _).mono ?_; rintro e w' ⟨rfl, rfl⟩))
    have hq := Jv.bad_new (T := 40) (U := 48) (n := 0) (p := t.size) (e := 20) hbb
    exact ⟨rfl, Or.inr ⟨_, _, HS.out, hq.1, hW1.trans hq.2⟩⟩
  | true =>
    rw [hf] at hF0
    have hdl : p + (Utf8.decode t p).2 ≤ t.size := Sg.decode_in t p hlt
    by_cases hw : Utf8.decode t p = (65533, 1)
    · have hS : signAt t p = .bad p eUtf8 := by unfold signAt; rw [if_neg (by simp [hf]), if_pos hw]
      have HS : Hid (signAt t p = .bad p eUtf8) := hS
      rw [hw] at hD
      clear hf hz hS hw hdl
      go_enter Tryz.func44, Tryz.ntmps44
      go_wp2
      go_quiet (fail)
      go_wp2_with (first | (go_at_call 60; refine (hF0 _ (hT.drewN _).here.u8).mono ?_; rintro e w1 ⟨rfl, hb1⟩; have hT1 := (hT.drewN _).below hb1 hT.size; have hR1 := (H0.out.drewN _).below hb1; have hW1 := ((Wk.refl b w).drewN _).below hb1 (Nat.le_refl _); have HR1 : Hid (Rd w1 b t p o) := hR1; clear hR1) | (go_at_call 61; refine (hD _ hT1.here.u8).mono ?_; rintro e w2 ⟨rfl, hb2⟩; have hR2 := HR1.out.below hb2; have hW2 := hW1.below hb2 hW1.size; obtain ⟨d0, d1, d2, g0, g1, g2, hbb, -, -, -⟩ := hR2) | (go_at_call 12; refine (Tryz.fault_any _ _ _).mono ?_; rintro e w' ⟨rfl, rfl⟩))
      have hq := Jv.bad_new (T := 40) (U := 48) (n := 0) (p := p) (e := 10) hbb
      exact ⟨rfl, Or.inr ⟨_, _, HS.out, hq.1, hW2.trans hq.2⟩⟩
    · have hS : signAt t p = .ok ((Utf8.decode t p).1, p + (Utf8.decode t p).2) := by unfold signAt; rw [if_neg (by simp [hf]), if_neg hw]
      have HS : Hid (signAt t p = .ok ((Utf8.decode t p).1, p + (Utf8.decode t p).2)) := hS
      have hw' : ¬ (((Utf8.decode t p).1 : Int) = 65533 ∧ ((Utf8.decode t p).2 : Int) = 1) := fun h => hw (Prod.ext (by have := h.1; omega) (by have := h.2; omega))
      clear hf hz hS hw
      generalize Utf8.decode t p = D at *
      obtain ⟨r, z⟩ := D
      by_cases h1 : (r : Int) = 65533
      · have h2 : ¬ (z : Int) = 1 := fun h => hw' ⟨h1, h⟩
        clear hw'
        go_enter Tryz.func44, Tryz.ntmps44
        go_wp2
        go_quiet (fail)
        go_wp2_with (first | (go_at_call 60; refine (hF0 _ (hT.drewN _).here.u8).mono ?_; rintro e w1 ⟨rfl, hb1⟩; have hT1 := (hT.drewN _).below hb1 hT.size; have hR1 := (H0.out.drewN _).below hb1; have hW1 := ((Wk.refl b w).drewN _).below hb1 (Nat.le_refl _); have HR1 : Hid (Rd w1 b t p o) := hR1; clear hR1) | (go_at_call 61; refine (hD _ hT1.here.u8).mono ?_; rintro e w2 ⟨rfl, hb2⟩; have hR2 := HR1.out.below hb2; have hW2 := hW1.below hb2 hW1.size; have HR2 : Hid (Rd w2 b t p o) := hR2; obtain ⟨d0, d1, d2, g0, g1, g2, hbb, -, -, -⟩ := hR2))
        go_ret
        exact Or.inl ⟨r, p + z, HS.out, Jv.ret_int (by omega), HR2.out.at0 _ _ (by omega) hdl, hW2.setCell _ _ _⟩
      · clear hw'
        go_enter Tryz.func44, Tryz.ntmps44
        go_wp2
        go_quiet (fail)
        go_wp2_with (first | (go_at_call 60; refine (hF0 _ (hT.drewN _).here.u8).mono ?_; rintro e w1 ⟨rfl, hb1⟩; have hT1 := (hT.drewN _).below hb1 hT.size; have hR1 := (H0.out.drewN _).below hb1; have hW1 := ((Wk.refl b w).drewN _).below hb1 (Nat.le_refl _); have HR1 : Hid (Rd w1 b t p o) := hR1; clear hR1) | (go_at_call 61; refine (hD _ hT1.here.u8).mono ?_; rintro e w2 ⟨rfl, hb2⟩; have hR2 := HR1.out.below hb2; have hW2 := hW1.below hb2 hW1.size; have HR2 : Hid (Rd w2 b t p o) := hR2; obtain ⟨d0, d1, d2, g0, g1, g2, hbb, -, -, -⟩ := hR2))
        go_ret
        exact Or.inl ⟨r, p + z, HS.out, rfl, HR2.out.at0 _ _ (by omega) hdl, hW2.setCell _ _ _⟩
end Go.Proofs
