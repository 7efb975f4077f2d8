/-
  WHAT FOLDING KEEPS: places, wrong bytes, words, edges; what is put together. Plain functions, nothing of the program.
-/
import Derived.Test.YtjfhpgafglmhdabDoorMath4
namespace Go.Sg
def Cont (b : Nat) : Prop := 128 ≤ b ∧ b ≤ 191
theorem cont_wrong (s : ByteArray) (p : Nat) (h : Cont (bt s p 0)) : Utf8.decode s p = (65533, 1) := sign_nolead s p h.1 (.inl (by unfold Cont at h; omega))
theorem right_first (s : ByteArray) (p : Nat) (h : wrongAt s p = false) : ¬ Cont (bt s p 0) := fun c => by
  rw [wrong_of s p (cont_wrong s p c)] at h
  cases h
theorem fold_bt_wrong (s : ByteArray) (n : Nat) (h : posn s n < s.size) (hw : wrongAt s (posn s n) = true) : bt (fold s) (posn s n) 0 = bt s (posn s n) 0 := by
  have := fold_get s n 0 h (wd_pos _ _)
  unfold bt
  rw [this]
  unfold piece
  rw [if_pos hw]
  rfl
theorem fold_right (s : ByteArray) (n : Nat) (h : posn s n < s.size) (hw : wrongAt s (posn s n) = false) : Utf8.decode (fold s) (posn s n) = ((small (Utf8.decode s (posn s n)).1).toNat, wd s (posn s n)) ∧ wrongAt (fold s) (posn s n) = false := by
  have hc := small_cls (decode_cls s (posn s n) hw)
  refine enc_dec (fold s) (posn s n) _ _ hc (by rw [fold_size]; exact decode_in s _ h) (fun j hj => ?_)
  rw [fold_get s n j h hj]
  unfold piece
  rw [if_neg (by rw [hw]; decide)]
theorem fold_noncont (s : ByteArray) (n : Nat) (h : posn s n < s.size) (hc : ¬ Cont (bt s (posn s n) 0)) : ¬ Cont (bt (fold s) (posn s n) 0) := by
  cases hw : wrongAt s (posn s n) with
  | true => rw [fold_bt_wrong s n h hw]; exact hc
  | false => exact right_first _ _ (fold_right s n h hw).2
theorem fold_cont (s : ByteArray) (n : Nat) (h : posn s n < s.size) (hc : Cont (bt s (posn s n) 0)) : bt (fold s) (posn s n) 0 = bt s (posn s n) 0 :=
  fold_bt_wrong s n h (wrong_of s _ (cont_wrong s _ hc))
/-- Behind a wrong byte each byte that could only go on begins a sign of its own. -/
theorem chain (s : ByteArray) (n : Nat) (hw : wd s (posn s n) = 1) (hlt : posn s n < s.size) : ∀ k, 1 ≤ k → posn s n + k ≤ s.size → (∀ j, 1 ≤ j → j < k → Cont (bt s (posn s n) j)) → posn s (n + k) = posn s n + k
  | 0, h, _, _ => by omega
  | 1, _, _, _ => by rw [posn_step s n hlt, hw]
  | k + 2, _, h, hc => by
    have ih := chain s n hw hlt (k + 1) (by omega) (by omega) (fun j j1 j2 => hc j j1 (by omega))
    have hl : posn s (n + (k + 1)) < s.size := by omega
    have hb : Cont (bt s (posn s (n + (k + 1))) 0) := by
      rw [ih, bt_add, Nat.add_zero]
      exact hc (k + 1) (by omega) (by omega)
    have := posn_step s (n + (k + 1)) hl
    rw [wd_wrong (cont_wrong s _ hb), ih] at this
    exact this
/-- A wrong byte is one in the folded text, too. -/
theorem fold_wrong (s : ByteArray) (n : Nat) (h : posn s n < s.size) (hw : wrongAt s (posn s n) = true) : Utf8.decode (fold s) (posn s n) = (65533, 1) := by
  have hd : Utf8.decode s (posn s n) = (65533, 1) := of_decide_eq_true hw
  have h1 := wd_wrong hd
  have e0 := fold_bt_wrong s n h hw
  have hch := chain s n h1 h
  have hnc := fold_noncont s
  have hcc := fold_cont s
  have hfs := fold_size s
  by_cases hlow : bt s (posn s n) 0 < 128
  · exfalso
    have := sign_low s _ hlow
    rw [hd] at this
    have := congrArg Prod.fst this
    simp at this
    omega
  · by_cases hno : bt s (posn s n) 0 < 194 ∨ 244 < bt s (posn s n) 0
    · exact sign_nolead _ _ (by omega) (by omega)
    · have hl : ∃ m off least, Lead m off least (bt s (posn s n) 0) := by
        by_cases c2 : bt s (posn s n) 0 ≤ 223
        · exact ⟨2, 192, 128, .inl ⟨rfl, rfl, rfl, by omega, c2⟩⟩
        · by_cases c3 : bt s (posn s n) 0 ≤ 239
          · exact ⟨3, 224, 2048, .inr (.inl ⟨rfl, rfl, rfl, by omega, c3⟩)⟩
          · exact ⟨4, 240, 65536, .inr (.inr ⟨rfl, rfl, rfl, by omega, by omega⟩)⟩
      obtain ⟨m, off, least, hL⟩ := hl
      have hL' : Lead m off least (bt (fold s) (posn s n) 0) := by rw [e0]; exact hL
      have hm4 : 2 ≤ m ∧ m ≤ 4 := by unfold Lead at hL; omega
      by_cases hsh : s.size < posn s n + m
      · exact sign_short _ _ m off least hL' (by rw [hfs]; exact hsh)
      · have key : ∀ k, 1 ≤ k → k ≤ m → (∀ j, 1 ≤ j → j < k → Cont (bt s (posn s n) j)) ∨ Utf8.decode (fold s) (posn s n) = (65533, 1) := by
          intro k
          induction k with
          | zero => intro h0; omega
          | succ k ih =>
            intro _ hk
            by_cases hk0 : k = 0
            · left; intro j j1 j2; omega
            · rcases ih (by omega) (by omega) with g | g
              · by_cases c : Cont (bt s (posn s n) k)
                · left
                  intro j j1 j2
                  by_cases e : j = k
                  · subst e; exact c
                  · exact g j j1 (by omega)
                · right
                  have hp := hch k (by omega) (by omega) g
                  have hn' := hnc (n + k) (by omega) (by rw [hp, bt_add, Nat.add_zero]; exact c)
                  rw [hp, bt_add, Nat.add_zero] at hn'
                  have hlt := bt_lt (fold s) (posn s n) k
                  exact sign_cont _ _ m off least k hL' (by omega) (by omega) (by unfold Cont at hn'; omega)
              · exact .inr g
        rcases key m (by omega) (Nat.le_refl _) with g | g
        · have hall : ∀ j, j < m → bt (fold s) (posn s n) j = bt s (posn s n) j := by
            intro j hj
            by_cases h0 : j = 0
            · subst h0; exact e0
            · have hp := hch j (by omega) (by omega) (fun i i1 i2 => g i i1 (by omega))
              have hc := hcc (n + j) (by omega) (by rw [hp, bt_add, Nat.add_zero]; exact g j (by omega) hj)
              rw [hp, bt_add, bt_add, Nat.add_zero] at hc
              exact hc
          have ds := sign_all s _ m off least hL (by omega) (fun k k1 k2 => g k k1 k2)
          have df := sign_all (fold s) _ m off least hL' (by rw [hfs]; omega) (fun k k1 k2 => by rw [hall k k2]; exact g k k1 k2)
          rw [refR_congr _ _ off m hall, ← ds, hd] at df
          exact df
        · exact g
theorem wd_fold (s : ByteArray) (n : Nat) (h : posn s n < s.size) : wd (fold s) (posn s n) = wd s (posn s n) := by
  cases hw : wrongAt s (posn s n) with
  | true => rw [wd_wrong (fold_wrong s n h hw), wd_wrong (of_decide_eq_true hw)]
  | false => unfold wd; rw [(fold_right s n h hw).1]; rfl
/-- Signs begin at the same places. -/
theorem posn_fold (s : ByteArray) : ∀ n, posn (fold s) n = posn s n
  | 0 => rfl
  | n + 1 => by
    have ih := posn_fold s n
    by_cases h : posn s n < s.size
    · rw [posn_step s n h, posn_step (fold s) n (by rw [ih, fold_size]; exact h), ih, wd_fold s n h]
    · rw [posn_stay s n h, posn_stay (fold s) n (by rw [ih, fold_size]; exact h), ih]
theorem wrong_fold (s : ByteArray) (n : Nat) (h : posn s n < s.size) : wrongAt (fold s) (posn s n) = wrongAt s (posn s n) := by
  cases hw : wrongAt s (posn s n) with
  | true => exact wrong_of _ _ (fold_wrong s n h hw)
  | false => exact (fold_right s n h hw).2
theorem isW_fold (s : ByteArray) (n : Nat) (h : posn s n < s.size) : isW (fold s) (posn s n) = isW s (posn s n) := by
  cases hw : wrongAt s (posn s n) with
  | true =>
    unfold isW
    rw [fold_wrong s n h hw, of_decide_eq_true hw]
  | false =>
    have hc := small_cls (decode_cls s (posn s n) hw)
    unfold isW
    rw [(fold_right s n h hw).1]
    have : (((small (Utf8.decode s (posn s n)).1).toNat : Nat) : Int) = small (Utf8.decode s (posn s n)).1 := by unfold Cls at hc; omega
    show wordB (((small (Utf8.decode s (posn s n)).1).toNat : Nat) : Int) = _
    rw [this]
    exact (small_two _).2
theorem piece_fold (s : ByteArray) (n : Nat) (h : posn s n < s.size) : piece (fold s) (posn s n) = piece s (posn s n) := by
  unfold piece
  rw [wrong_fold s n h]
  cases hw : wrongAt s (posn s n) with
  | true =>
    have := fold_get s n 0 h (wd_pos _ _)
    rw [Nat.add_zero] at this
    unfold piece at this
    rw [if_pos hw] at this
    rw [if_pos rfl, if_pos rfl, this]
    rfl
  | false =>
    have hc := small_cls (decode_cls s (posn s n) hw)
    rw [if_neg (by decide), if_neg (by decide), (fold_right s n h hw).1]
    have : (((small (Utf8.decode s (posn s n)).1).toNat : Nat) : Int) = small (Utf8.decode s (posn s n)).1 := by unfold Cls at hc; omega
    show Lib.encodeRune (small (((small (Utf8.decode s (posn s n)).1).toNat : Nat) : Int)) = _
    rw [this, (small_two _).1]
theorem fl_fold (s : ByteArray) : ∀ k n, s.size - posn s n ≤ k → fl (fold s) (posn s n) = fl s (posn s n)
  | k, n, hk => by
    by_cases h : posn s n < s.size
    · have hw := wd_pos s (posn s n)
      have hs := posn_step s n h
      match k, hk with
      | 0, hk => omega
      | k + 1, hk =>
        rw [fl_step s _ h, fl_step (fold s) _ (by rw [fold_size]; exact h), piece_fold s n h, wd_fold s n h, ← hs, fl_fold s k (n + 1) (by omega)]
    · rw [fl_end s _ h, fl_end (fold s) _ (by rw [fold_size]; exact h)]
theorem ba_ext (a b : ByteArray) (h : a.data.toList = b.data.toList) : a = b := by
  cases a; cases b
  congr 1
  exact Array.toList_inj.1 h
/-- Small letters are written once and for all. -/
theorem fold_fold (s : ByteArray) : fold (fold s) = fold s := by
  apply ba_ext
  rw [fold_list, fold_list]
  exact fl_fold s s.size 0 (by omega)
theorem validFrom_fold (s : ByteArray) : ∀ f n, validFrom (fold s) f (posn s n) = validFrom s f (posn s n)
  | 0, _ => rfl
  | f + 1, n => by
    unfold validFrom
    rw [fold_size]
    by_cases h : posn s n < s.size
    · rw [if_pos h, if_pos h, wrong_fold s n h]
      have hs := posn_step s n h
      have hw := wd_fold s n h
      unfold wd at hs hw
      rw [hw, ← hs, validFrom_fold s f (n + 1)]
    · rw [if_neg h, if_neg h]
theorem valid_fold (s : ByteArray) : valid (fold s) = valid s := by
  unfold valid
  rw [fold_size]
  exact validFrom_fold s s.size 0
theorem last_place (s : ByteArray) : ∃ N, posn s N = s.size ∧ ∀ m, m < N → posn s m < s.size := by
  have key : ∀ b, posn s b = s.size → ∃ N, posn s N = s.size ∧ ∀ m, m < N → posn s m < s.size := by
    intro b
    induction b with
    | zero => intro h; exact ⟨0, h, fun m hm => by omega⟩
    | succ b ih =>
      intro h
      by_cases c : posn s b = s.size
      · exact ih c
      · refine ⟨b + 1, h, fun m hm => ?_⟩
        have h1 := posn_mono s m b (by omega)
        have h2 := posn_le s b
        omega
  exact key s.size (posn_end s)
theorem mk_fold (s : ByteArray) : ∀ N, (∀ m, m < N → posn s m < s.size) → ∀ j, mk (fold s) N j = mk s N j
  | 0, _, _ => rfl
  | N + 1, h, j => by
    unfold mk
    rw [posn_fold, mk_fold s N (fun m hm => h m (by omega)) j]
    have e : mkE (fold s) N = mkE s N := by
      unfold mkE
      rw [posn_fold, isW_fold s N (h N (by omega))]
      cases N with
      | zero => rfl
      | succ k =>
        show (_ || !isW (fold s) (posn (fold s) k) || _) = (_ || !isW s (posn s k) || _)
        rw [posn_fold, isW_fold s k (h k (by omega))]
    rw [e]
/-- Of the same bytes, the same edges. -/
theorem edge_fold (s : ByteArray) (a : Nat) (ha : a ≤ s.size) : edgeN (fold s) a = edgeN s a := by
  obtain ⟨N, h1, h2⟩ := last_place s
  rw [edge_eq s N a h1 h2 ha, edge_eq (fold s) N a (by rw [posn_fold, fold_size]; exact h1) (fun m hm => by rw [posn_fold, fold_size]; exact h2 m hm) (by rw [fold_size]; exact ha), fold_size, mk_fold s N h2]
end Go.Sg
