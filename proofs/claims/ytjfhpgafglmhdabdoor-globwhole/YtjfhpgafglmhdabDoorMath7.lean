/-
  A TEXT BEHIND WHICH A BYTE FOLLOWS THAT CAN'T GO ON A SIGN; a part between blanks. Plain functions, nothing of the program.
-/
import Derived.Test.YtjfhpgafglmhdabDoorMath6
import Derived.Test.YtjfhpgafglmhdabDoorKmp2
namespace Go.Sg
theorem app_bt_left (s t : ByteArray) (p j : Nat) (h : p + j < s.size) : bt (s ++ t) p j = bt s p j := by
  unfold bt
  rw [app_left s t (p + j) h]
/-- Nothing of what follows belongs to a sign of the first text. -/
theorem stop_dec (s t : ByteArray) (hR : t.size = 0 ∨ ¬ Cont (bt t 0 0)) (q : Nat) (hq : q < s.size) : Utf8.decode (s ++ t) q = Utf8.decode s q := by
  cases hw : wrongAt s q with
  | false => exact app_dec_left s t q hq hw
  | true =>
    have hd : Utf8.decode s q = (65533, 1) := of_decide_eq_true hw
    have e0 := app_bt_left s t q 0 (by omega)
    rw [hd]
    by_cases hlow : bt s q 0 < 128
    · exfalso
      have := sign_low s q hlow
      rw [hd] at this
      have := congrArg Prod.fst this
      simp at this
      omega
    · by_cases hno : bt s q 0 < 194 ∨ 244 < bt s q 0
      · exact sign_nolead _ _ (by omega) (by omega)
      · have hl : ∃ m off least, Lead m off least (bt s q 0) := by
          by_cases c2 : bt s q 0 ≤ 223
          · exact ⟨2, 192, 128, .inl ⟨rfl, rfl, rfl, by omega, c2⟩⟩
          · by_cases c3 : bt s q 0 ≤ 239
            · exact ⟨3, 224, 2048, .inr (.inl ⟨rfl, rfl, rfl, by omega, c3⟩)⟩
            · exact ⟨4, 240, 65536, .inr (.inr ⟨rfl, rfl, rfl, by omega, by omega⟩)⟩
        obtain ⟨m, off, least, hL⟩ := hl
        have hL' : Lead m off least (bt (s ++ t) q 0) := by rw [e0]; exact hL
        have hm4 : 2 ≤ m ∧ m ≤ 4 := by unfold Lead at hL; omega
        by_cases hsh : s.size < q + m
        · rcases hR with h0 | hc
          · exact sign_short _ _ m off least hL' (by rw [app_size]; omega)
          · have e : bt (s ++ t) q (s.size - q) = bt t 0 0 := by
              have := app_bt_right s t 0 0
              rw [← this, Nat.add_zero]
              have h2 := bt_add (s ++ t) q (s.size - q) 0
              rw [show q + (s.size - q) = s.size from by omega, Nat.add_zero] at h2
              exact h2.symm
            have hlt := bt_lt t 0 0
            exact sign_cont _ _ m off least (s.size - q) hL' (by omega) (by omega) (by rw [e]; unfold Cont at hc; omega)
        · by_cases hall : ∀ k, 1 ≤ k → k < m → Cont (bt s q k)
          · have ds := sign_all s q m off least hL (by omega) (fun k k1 k2 => hall k k1 k2)
            have hb : ∀ j, j < m → bt (s ++ t) q j = bt s q j := fun j hj => app_bt_left s t q j (by omega)
            have df := sign_all (s ++ t) q m off least hL' (by rw [app_size]; omega) (fun k k1 k2 => by rw [hb k k2]; exact hall k k1 k2)
            rw [refR_congr _ _ off m hb, ← ds, hd] at df
            exact df
          · have hex : ∃ k, 1 ≤ k ∧ k < m ∧ ¬ Cont (bt s q k) := by
              by_cases c : ∃ k, 1 ≤ k ∧ k < m ∧ ¬ Cont (bt s q k)
              · exact c
              · exact absurd (fun k k1 k2 => by
                  by_cases d : Cont (bt s q k)
                  · exact d
                  · exact absurd ⟨k, k1, k2, d⟩ c) hall
            obtain ⟨k, k1, k2, k3⟩ := hex
            have hlt := bt_lt s q k
            exact sign_cont _ _ m off least k hL' k1 k2 (by rw [app_bt_left s t q k (by omega)]; unfold Cont at k3; omega)
theorem fl_stop (s t : ByteArray) (hR : t.size = 0 ∨ ¬ Cont (bt t 0 0)) : ∀ k n, s.size - posn s n ≤ k → fl (s ++ t) (posn s n) = fl s (posn s n) ++ fl t 0
  | k, n, hk => by
    by_cases h : posn s n < s.size
    · have hw := wd_pos s (posn s n)
      have hd := stop_dec s t hR (posn s n) h
      have ew : wd (s ++ t) (posn s n) = wd s (posn s n) := by unfold wd; rw [hd]
      have ep : piece (s ++ t) (posn s n) = piece s (posn s n) := by
        unfold piece wrongAt
        rw [hd, app_left s t _ h]
      have hs := posn_step s n h
      match k, hk with
      | 0, hk => omega
      | k + 1, hk =>
        rw [fl_step s _ h, fl_step (s ++ t) _ (by rw [app_size]; omega), ep, ew, ← hs, fl_stop s t hR k (n + 1) (by omega), List.append_assoc]
    · have := posn_le s n
      have e : posn s n = s.size := by omega
      have h2 := fl_app_right s t t.size 0 (by omega)
      rw [Nat.add_zero] at h2
      rw [fl_end s _ h, e, List.nil_append, h2]
theorem fold_stop (s t : ByteArray) (hR : t.size = 0 ∨ ¬ Cont (bt t 0 0)) : (fold (s ++ t)).data.toList = (fold s).data.toList ++ (fold t).data.toList := by
  rw [fold_list, fold_list, fold_list]
  exact fl_stop s t hR s.size 0 (by omega)
def blank : ByteArray := ⟨#[32]⟩
theorem blank_first (t : ByteArray) : bt (blank ++ t) 0 0 = 32 := by
  rw [app_bt_left blank t 0 0 (by decide)]
  decide +kernel
theorem blank_no (t : ByteArray) : (blank ++ t).size = 0 ∨ ¬ Cont (bt (blank ++ t) 0 0) := .inr (by rw [blank_first]; unfold Cont; omega)
theorem fold_blank (t : ByteArray) : (fold (blank ++ t)).data.toList = 32 :: (fold t).data.toList := by
  have h : valid blank = true := by decide +kernel
  rw [fold_app blank t h, app_list, show fold blank = blank from by decide +kernel]
  rfl
/-- A text of three, blanks between them. -/
def three (a p b : ByteArray) : ByteArray := a ++ (blank ++ (p ++ (blank ++ b)))
theorem fold_three (a p b : ByteArray) : (fold (three a p b)).data.toList = (fold a).data.toList ++ (32 :: ((fold p).data.toList ++ (32 :: (fold b).data.toList))) := by
  unfold three
  rw [fold_stop a _ (blank_no _), fold_blank, fold_stop p _ (blank_no _), fold_blank]
theorem three_size (a p b : ByteArray) : (three a p b).size = a.size + 1 + p.size + 1 + b.size := by
  unfold three
  rw [app_size, app_size, app_size, app_size]
  show a.size + (1 + (p.size + (1 + b.size))) = _
  omega
theorem three_at1 (a p b : ByteArray) : bt (three a p b) a.size 0 = 32 := by
  unfold three
  have := app_bt_right a (blank ++ (p ++ (blank ++ b))) 0 0
  rw [Nat.add_zero] at this
  rw [this, blank_first]
theorem three_at2 (a p b : ByteArray) : bt (three a p b) (a.size + 1 + p.size) 0 = 32 := by
  unfold three
  have h1 := app_bt_right a (blank ++ (p ++ (blank ++ b))) (1 + p.size) 0
  have h2 := app_bt_right blank (p ++ (blank ++ b)) p.size 0
  have h3 := app_bt_right p (blank ++ b) 0 0
  rw [Nat.add_zero] at h3
  rw [show a.size + 1 + p.size = a.size + (1 + p.size) from by omega, h1]
  rw [show blank.size + p.size = 1 + p.size from rfl] at h2
  rw [h2, h3, blank_first]
theorem edge_begin (s : ByteArray) (n : Nat) (h : posn s n < s.size) : edgeN s (posn s n) = mkE s n := by
  obtain ⟨N, h1, h2⟩ := last_place s
  have hn : n < N := by
    by_cases c : n < N
    · exact c
    · have := posn_mono s N n (by omega)
      omega
  rw [edge_eq s N _ h1 h2 (by omega), if_neg (by omega), mk_at s n h N hn h2]
theorem blank_isW (s : ByteArray) (p : Nat) (h : bt s p 0 = 32) : isW s p = false ∧ wd s p = 1 := by
  have hd := sign_low s p (by omega)
  unfold isW wd
  rw [hd, h]
  exact ⟨by decide, rfl⟩
theorem edge_at_blank (s : ByteArray) (p : Nat) (hp : p < s.size) (h : bt s p 0 = 32) : edgeN s p = true := by
  obtain ⟨n, hn⟩ := lead_begins s p (by omega) (by omega)
  rw [← hn, edge_begin s n (by omega)]
  unfold mkE
  rw [hn, (blank_isW s p h).1]
  simp
theorem edge_behind_blank (s : ByteArray) (p : Nat) (hp : p < s.size) (h : bt s p 0 = 32) : edgeN s (p + 1) = true := by
  obtain ⟨n, hn⟩ := lead_begins s p (by omega) (by omega)
  have hs := posn_step s n (by omega)
  rw [hn, (blank_isW s p h).2] at hs
  by_cases c : p + 1 < s.size
  · rw [← hs, edge_begin s (n + 1) (by omega)]
    unfold mkE
    show (_ || !isW s (posn s n) || _) = true
    rw [hn, (blank_isW s p h).1]
    simp
  · have e : p + 1 = s.size := by omega
    obtain ⟨N, h1, h2⟩ := last_place s
    rw [edge_eq s N _ h1 h2 (by omega), if_pos e]
theorem edge_zero (s : ByteArray) : edgeN s 0 = true := by
  have hw : ¬ withinB s 0 = true := fun h => (within_iff s 0 (by omega)).1 h 0 rfl
  unfold edgeN
  rw [if_neg hw, if_pos (.inl rfl)]
theorem edge_end (s : ByteArray) : edgeN s s.size = true := by
  obtain ⟨N, h1, h2⟩ := last_place s
  rw [edge_eq s N _ h1 h2 (by omega), if_pos rfl]
theorem len_fold (s : ByteArray) : (fold s).data.toList.length = s.size := by rw [← Lib.size_eq, fold_size]
theorem has_self (p : ByteArray) (h : p.size ≠ 0) : hasB p p = true := by
  rw [has_iff p p h (len_fold p) (len_fold p)]
  refine ⟨0, by omega, edge_zero p, by rw [Nat.zero_add]; exact edge_end p, ?_⟩
  rw [List.drop_zero, List.take_of_length_le (by rw [len_fold]; exact Nat.le_refl _)]
theorem has_three (a p b : ByteArray) (h : p.size ≠ 0) : hasB (three a p b) p = true := by
  have hs := three_size a p b
  rw [has_iff _ p h (len_fold p) (len_fold _)]
  refine ⟨a.size + 1, by omega, edge_behind_blank _ _ (by omega) (three_at1 a p b), edge_at_blank _ _ (by omega) (three_at2 a p b), ?_⟩
  rw [fold_three, ← len_fold a, ← List.drop_drop, List.drop_left]
  show ((fold p).data.toList ++ (32 :: (fold b).data.toList)).take p.size = _
  rw [← len_fold p, List.take_left]
theorem has_fold_text (t p : ByteArray) (h : p.size ≠ 0) : hasB (fold t) p = hasB t p := by
  apply Bool.eq_iff_iff.2
  rw [has_iff t p h (len_fold p) (len_fold t), has_iff (fold t) p h (len_fold p) (len_fold _), fold_fold, fold_size]
  constructor
  · rintro ⟨a, h1, h2, h3, h4⟩
    exact ⟨a, h1, by rw [← edge_fold t a (by omega)]; exact h2, by rw [← edge_fold t (a + p.size) h1]; exact h3, h4⟩
  · rintro ⟨a, h1, h2, h3, h4⟩
    exact ⟨a, h1, by rw [edge_fold t a (by omega)]; exact h2, by rw [edge_fold t (a + p.size) h1]; exact h3, h4⟩
theorem has_fold_part (t p : ByteArray) (h : p.size ≠ 0) : hasB t (fold p) = hasB t p := by
  apply Bool.eq_iff_iff.2
  rw [has_iff t p h (len_fold p) (len_fold t), has_iff t (fold p) (by rw [fold_size]; exact h) (len_fold _) (len_fold t), fold_fold, fold_size]
theorem has_long (t p : ByteArray) (h : t.size < p.size) : hasB t p = false := by
  cases hr : hasB t p with
  | false => rfl
  | true =>
    obtain ⟨a, h1, _⟩ := (has_iff t p (by omega) (len_fold p) (len_fold t)).1 hr
    omega
end Go.Sg
