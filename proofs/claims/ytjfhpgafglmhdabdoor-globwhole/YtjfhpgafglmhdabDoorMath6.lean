/-
  TWO TEXTS PUT TOGETHER. Plain functions, nothing of the program.
-/
import Derived.Test.YtjfhpgafglmhdabDoorMath5
namespace Go.Sg
theorem app_list (s t : ByteArray) : (s ++ t).data.toList = s.data.toList ++ t.data.toList := by
  rw [ByteArray.data_append, Array.toList_append]
theorem app_size (s t : ByteArray) : (s ++ t).size = s.size + t.size := ByteArray.size_append
theorem app_left (s t : ByteArray) (i : Nat) (h : i < s.size) : (s ++ t).get! i = s.get! i := by
  rw [← Lib.getD_get!, ← Lib.getD_get!, app_list, List.getD, List.getD, List.getElem?_append_left (by rw [← Lib.size_eq]; exact h)]
theorem app_right (s t : ByteArray) (i : Nat) : (s ++ t).get! (s.size + i) = t.get! i := by
  rw [← Lib.getD_get!, ← Lib.getD_get!, app_list, List.getD, List.getD, List.getElem?_append_right (by rw [← Lib.size_eq]; omega), ← Lib.size_eq, Nat.add_sub_cancel_left]
theorem app_bt_right (s t : ByteArray) (p j : Nat) : bt (s ++ t) (s.size + p) j = bt t p j := by
  unfold bt
  rw [Nat.add_assoc, app_right]
theorem app_dec_right (s t : ByteArray) (p : Nat) : Utf8.decode (s ++ t) (s.size + p) = Utf8.decode t p := by
  rw [decode_bt, decode_bt, app_bt_right, app_bt_right, app_bt_right, app_bt_right, app_size, show s.size + t.size - (s.size + p) = t.size - p from by omega]
/-- A right sign stands in front of whatever is put behind. -/
theorem app_dec_left (s t : ByteArray) (p : Nat) (h : p < s.size) (hw : wrongAt s p = false) : Utf8.decode (s ++ t) p = Utf8.decode s p := by
  by_cases h2 : 2 ≤ wd s p
  · have hm := multi s p h2
    exact stable s (s ++ t) p p h2 (by rw [app_size]; omega) (fun j hj => by unfold bt; rw [app_left s t (p + j) (by omega)])
  · have h1 : wd s p = 1 := by have := wd_pos s p; omega
    have hlow : bt s p 0 < 128 := by
      by_cases c : bt s p 0 < 128
      · exact c
      · rw [wrong_of s p (high_wrong s p (by omega) h1)] at hw
        cases hw
    have e : bt (s ++ t) p 0 = bt s p 0 := by unfold bt; rw [app_left s t (p + 0) (by omega)]
    rw [sign_low s p hlow, sign_low (s ++ t) p (by rw [e]; exact hlow), e]
theorem valid_at (s : ByteArray) : ∀ f n, s.size ≤ posn s n + f → validFrom s f (posn s n) = true → posn s n < s.size → wrongAt s (posn s n) = false ∧ validFrom s (f - 1) (posn s (n + 1)) = true
  | 0, n, hf, _, h => by omega
  | f + 1, n, hf, hv, h => by
    unfold validFrom at hv
    rw [if_pos h] at hv
    cases hw : wrongAt s (posn s n) with
    | true => rw [hw, if_pos rfl] at hv; cases hv
    | false =>
      rw [hw, if_neg (by decide)] at hv
      rw [posn_step s n h]
      exact ⟨rfl, hv⟩
theorem valid_right (s : ByteArray) (hv : valid s = true) : ∀ n, (∃ f, s.size ≤ posn s n + f ∧ validFrom s f (posn s n) = true)
  | 0 => ⟨s.size, by omega, hv⟩
  | n + 1 => by
    obtain ⟨f, h1, h2⟩ := valid_right s hv n
    by_cases h : posn s n < s.size
    · have hw := wd_pos s (posn s n)
      refine ⟨f - 1, ?_, (valid_at s f n h1 h2 h).2⟩
      rw [posn_step s n h]
      omega
    · exact ⟨f, by rw [posn_stay s n h]; exact h1, by rw [posn_stay s n h]; exact h2⟩
theorem valid_no_wrong (s : ByteArray) (hv : valid s = true) (n : Nat) (h : posn s n < s.size) : wrongAt s (posn s n) = false := by
  obtain ⟨f, h1, h2⟩ := valid_right s hv n
  exact (valid_at s f n h1 h2 h).1
theorem app_wrong_left (s t : ByteArray) (p : Nat) (h : p < s.size) (hw : wrongAt s p = false) : wrongAt (s ++ t) p = false := by
  unfold wrongAt at hw ⊢
  rw [app_dec_left s t p h hw]
  exact hw
theorem fl_app_right (s t : ByteArray) : ∀ k p, t.size - p ≤ k → fl (s ++ t) (s.size + p) = fl t p
  | k, p, hk => by
    by_cases h : p < t.size
    · have hw := wd_pos t p
      have ew : wd (s ++ t) (s.size + p) = wd t p := by unfold wd; rw [app_dec_right]
      have ep : piece (s ++ t) (s.size + p) = piece t p := by
        unfold piece wrongAt
        rw [app_dec_right, app_right]
      match k, hk with
      | 0, hk => omega
      | k + 1, hk =>
        rw [fl_step t p h, fl_step (s ++ t) _ (by rw [app_size]; omega), ep, ew, Nat.add_assoc, fl_app_right s t k (p + wd t p) (by omega)]
    · rw [fl_end t p h, fl_end (s ++ t) _ (by rw [app_size]; omega)]
theorem fl_app_left (s t : ByteArray) (hv : valid s = true) : ∀ k n, s.size - posn s n ≤ k → fl (s ++ t) (posn s n) = fl s (posn s n) ++ fl t 0
  | k, n, hk => by
    by_cases h : posn s n < s.size
    · have hw := wd_pos s (posn s n)
      have hr := valid_no_wrong s hv n h
      have ew : wd (s ++ t) (posn s n) = wd s (posn s n) := by unfold wd; rw [app_dec_left s t _ h hr]
      have ep : piece (s ++ t) (posn s n) = piece s (posn s n) := by
        unfold piece
        rw [app_wrong_left s t _ h hr, hr, if_neg (by decide), if_neg (by decide), app_dec_left s t _ h hr]
      have hs := posn_step s n h
      match k, hk with
      | 0, hk => omega
      | k + 1, hk =>
        rw [fl_step s _ h, fl_step (s ++ t) _ (by rw [app_size]; omega), ep, ew, ← hs, fl_app_left s t hv k (n + 1) (by omega), List.append_assoc]
    · have := posn_le s n
      have e : posn s n = s.size := by omega
      have h2 := fl_app_right s t t.size 0 (by omega)
      rw [Nat.add_zero] at h2
      rw [fl_end s _ h, e, List.nil_append, h2]
/-- What is put together of right texts is written as its pieces. -/
theorem fold_app (s t : ByteArray) (hv : valid s = true) : fold (s ++ t) = fold s ++ fold t := by
  apply ba_ext
  rw [app_list, fold_list, fold_list, fold_list]
  exact fl_app_left s t hv s.size 0 (by omega)
end Go.Sg
