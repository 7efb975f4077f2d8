/-
  EDGES: what the first text reckons on the spot and the second marks on its way are the same. Plain functions, nothing of the program.
-/
import Derived.Test.YtjfhpgafglmhdabDoorMath2
namespace Go.Sg
theorem head_size (s : ByteArray) (a : Nat) (h : a ≤ s.size) : (s.extract 0 a).size = a := by rw [ByteArray.size_extract]; omega
theorem head_get (s : ByteArray) (a i : Nat) (_h : a ≤ s.size) (hi : i < a) : (s.extract 0 a).get! i = s.get! i := by
  rw [← Lib.getD_get!, ← Lib.getD_get!, Lib.extract_data]
  simp only [List.drop_zero, Nat.sub_zero, List.getD]
  rw [List.getElem?_take, if_pos hi]
theorem head_bt (s : ByteArray) (a p j : Nat) (h : a ≤ s.size) (hi : p + j < a) : bt (s.extract 0 a) p j = bt s p j := by
  unfold bt
  rw [head_get s a (p + j) h hi]
theorem lastStart_le (l : List UInt8) (h : 2 ≤ l.length) : Lib.lastStart l + 2 ≤ l.length := by
  unfold Lib.lastStart
  dsimp only
  repeat' split
  all_goals omega
theorem high_wrong (s : ByteArray) (p : Nat) (h : 128 ≤ bt s p 0) (hw : wd s p = 1) : Utf8.decode s p = (65533, 1) := by
  cases c : wrongAt s p with
  | true => exact of_decide_eq_true c
  | false =>
    exfalso
    have hc := decode_cls s p c
    unfold wd at hw
    rw [hw] at hc
    have : (Utf8.decode s p).1 = bt s p 0 ∨ 128 ≤ (Utf8.decode s p).1 := by
      rw [decode_bt]
      generalize bt s p 0 = b0 at *
      unfold Lib.decodeN
      repeat' split
      all_goals dsimp only
      all_goals omega
    unfold Cls at hc
    omega
theorem lastL_eq (t : ByteArray) (h0 : 0 < t.size) (hb : 128 ≤ bt t (t.size - 1) 0) : Lib.decodeLastL t.data.toList = if Lib.lastStart t.data.toList + (Utf8.decode t (Lib.lastStart t.data.toList)).2 = t.size then Utf8.decode t (Lib.lastStart t.data.toList) else (65533, 1) := by
  have hl : t.data.toList.length = t.size := (Lib.size_eq t).symm
  unfold Lib.decodeLastL
  rw [if_neg (fun e => by rw [e] at hl; simp at hl; omega), hl, Lib.getD_get!, if_neg (by unfold bt at hb; rw [Nat.add_zero] at hb; omega), Lib.decodeL_drop]
  rfl
theorem lastL_low (t : ByteArray) (h0 : 0 < t.size) (hb : bt t (t.size - 1) 0 < 128) : Lib.decodeLastL t.data.toList = (bt t (t.size - 1) 0, 1) := by
  have hl : t.data.toList.length = t.size := (Lib.size_eq t).symm
  unfold bt at hb ⊢
  rw [Nat.add_zero] at hb ⊢
  unfold Lib.decodeLastL
  rw [if_neg (fun e => by rw [e] at hl; simp at hl; omega), hl, Lib.getD_get!, if_pos hb]
theorem not_start (t : ByteArray) (i : Nat) (h : 128 ≤ (t.get! i).toNat ∧ (t.get! i).toNat ≤ 191) : Lib.runeStartB (t.data.toList.getD i 0) = false := by
  rw [Lib.getD_get!]
  unfold Lib.runeStartB
  rw [bne_eq_false_iff_eq]
  omega
theorem is_start (t : ByteArray) (i : Nat) (h : 192 ≤ (t.get! i).toNat) : Lib.runeStartB (t.data.toList.getD i 0) = true := by
  rw [Lib.getD_get!]
  unfold Lib.runeStartB
  rw [bne_iff_ne]
  have := UInt8.toNat_lt (t.get! i)
  omega
/-- The sign that ends where the next one begins, read from behind. -/
theorem last_sign (s : ByteArray) (n : Nat) (h : posn s n < s.size) : (Lib.decodeLastL (s.extract 0 (posn s n + wd s (posn s n))).data.toList).1 = (Utf8.decode s (posn s n)).1 := by
  have ha : posn s n + wd s (posn s n) ≤ s.size := decode_in s _ h
  have hw1 := wd_pos s (posn s n)
  have hw4 := wd_le4 s (posn s n)
  have hts := head_size s _ ha
  have hbt := fun p j => head_bt s (posn s n + wd s (posn s n)) p j ha
  have hnb := fun m => no_begin s m n
  have hld := lead_begins s
  have hst := fun (t : ByteArray) (p q : Nat) => stable t s p q
  have hst' := fun (t : ByteArray) (p q : Nat) => stable s t p q
  generalize hp : posn s n = p at *
  generalize hwd : wd s p = w at *
  generalize s.extract 0 (p + w) = t at *
  have hl : t.data.toList.length = t.size := (Lib.size_eq t).symm
  by_cases h2 : 2 ≤ w
  · have hm := multi s p (by omega)
    rw [hwd] at hm
    have hd : Utf8.decode t p = Utf8.decode s p := hst' t p p (by omega) (by omega) (fun j hj => hbt p j (by omega))
    have hb : 128 ≤ bt t (t.size - 1) 0 := by
      have e := bt_add t p (w - 1) 0
      rw [show p + (w - 1) = t.size - 1 from by omega, Nat.add_zero] at e
      rw [e, hbt p (w - 1) (by omega)]
      exact (hm.2.1 (w - 1) (by omega) (by omega)).1
    have hg : ∀ j, j < w → (t.get! (p + j)).toNat = bt s p j := fun j hj => by rw [← hbt p j (by omega)]; rfl
    have hlead : Lib.runeStartB (t.data.toList.getD p 0) = true := is_start t p (by have := hg 0 (by omega); rw [Nat.add_zero] at this; omega)
    have hcont : ∀ j, 1 ≤ j → j < w → Lib.runeStartB (t.data.toList.getD (p + j) 0) = false := fun j j1 j2 => not_start t (p + j) (by rw [hg j j2]; exact hm.2.1 j j1 j2)
    have hls : Lib.lastStart t.data.toList = p := by
      have hw : w = 2 ∨ w = 3 ∨ w = 4 := by omega
      rcases hw with e | e | e
      · exact Lib.lastStart_at2 _ p (by omega) hlead
      · exact Lib.lastStart_at3 _ p (by omega) (hcont 1 (by omega) (by omega)) hlead
      · exact Lib.lastStart_at4 _ p (by omega) (hcont 2 (by omega) (by omega)) (hcont 1 (by omega) (by omega)) hlead
    rw [lastL_eq t (by omega) hb, hls, hd, if_pos (by unfold wd at hwd; omega)]
  · have hw : w = 1 := by omega
    have hpt : t.size - 1 = p := by omega
    have hb0 : bt t p 0 = bt s p 0 := hbt p 0 (by omega)
    by_cases hlow : bt s p 0 < 128
    · rw [lastL_low t (by omega) (by rw [hpt, hb0]; exact hlow), hpt, hb0, sign_low s p hlow]
    · have hs65 := high_wrong s p (by omega) (by omega)
      rw [hs65, lastL_eq t (by omega) (by rw [hpt, hb0]; omega)]
      by_cases c : Lib.lastStart t.data.toList + (Utf8.decode t (Lib.lastStart t.data.toList)).2 = t.size
      · rw [if_pos c]
        have hle := lastStart_le t.data.toList
        rw [hl] at hle
        generalize Lib.lastStart t.data.toList = st at *
        by_cases h1 : t.size = 1
        · have hw1' := wd_pos t st
          unfold wd at hw1'
          obtain rfl : st = 0 := by omega
          obtain rfl : p = 0 := by omega
          rw [high_wrong t 0 (by rw [hb0]; omega) (by unfold wd; omega)]
        · exfalso
          have hle' := hle (by omega)
          have hwt : wd t st = t.size - st := by unfold wd; omega
          have hds := hst t st st (by omega) (by omega) (fun j hj => (hbt st j (by omega)).symm)
          have hws : wd s st = wd t st := by unfold wd; rw [hds]
          have hm := multi s st (by omega)
          obtain ⟨m, hm'⟩ := hld st (by omega) (by omega)
          exact hnb m p (by omega) (by rw [hm']; omega) (by omega) rfl
      · rw [if_neg c]
/-- Is the sign at a place a word's? -/
def isW (s : ByteArray) (p : Nat) : Bool := wordB (Utf8.decode s p).1
def wasW (s : ByteArray) : Nat → Bool
  | 0 => false
  | n + 1 => isW s (posn s n)
/-- What is marked where the n-th sign begins. -/
def mkE (s : ByteArray) (n : Nat) : Bool := decide (posn s n = 0) || !wasW s n || !isW s (posn s n)
/-- What is marked at a place behind n signs. -/
def mk (s : ByteArray) : Nat → Nat → Bool
  | 0, _ => false
  | n + 1, j => if j = posn s n then mkE s n else mk s n j
theorem posn_inj (s : ByteArray) (n m : Nat) (hn : posn s n < s.size) (h : n < m) : posn s n < posn s m := by
  have h1 := posn_mono s (n + 1) m (by omega)
  have := wd_pos s (posn s n)
  rw [posn_step s n hn] at h1
  omega
theorem mk_none (s : ByteArray) (j : Nat) (h : ∀ n, posn s n ≠ j) : ∀ n, mk s n j = false
  | 0 => rfl
  | n + 1 => by
    unfold mk
    rw [if_neg (fun e => h n e.symm)]
    exact mk_none s j h n
theorem mk_at (s : ByteArray) (i : Nat) (hi : posn s i < s.size) : ∀ n, i < n → (∀ m, m < n → posn s m < s.size) → mk s n (posn s i) = mkE s i
  | 0, h, _ => by omega
  | n + 1, h, hn => by
    unfold mk
    by_cases e : i = n
    · subst e; rw [if_pos rfl]
    · have := posn_inj s i n hi (by omega)
      rw [if_neg (by omega)]
      exact mk_at s i hi n (by omega) (fun m hm => hn m (by omega))
/-- S4: the two ways. -/
theorem edge_eq (s : ByteArray) (N a : Nat) (hN : posn s N = s.size) (hlt : ∀ m, m < N → posn s m < s.size) (ha : a ≤ s.size) : edgeN s a = if a = s.size then true else mk s N a := by
  unfold edgeN
  by_cases hb : ∀ n, posn s n ≠ a
  · rw [if_pos ((within_iff s a ha).2 hb), if_neg (fun e => hb N (by omega)), mk_none s a hb]
  · have hw : ¬ withinB s a = true := fun h => hb ((within_iff s a ha).1 h)
    rw [if_neg hw]
    by_cases he : a = s.size
    · rw [if_pos (.inr he), if_pos he]
    · rw [if_neg he]
      obtain ⟨i, hi⟩ : ∃ i, posn s i = a := by
        by_cases c : ∃ i, posn s i = a
        · exact c
        · exact absurd (fun n e => c ⟨n, e⟩) hb
      have hil : i < N := by
        by_cases c : i < N
        · exact c
        · have := posn_mono s N i (by omega)
          have := posn_le s i
          omega
      rw [← hi, mk_at s i (hlt i hil) N hil hlt]
      unfold mkE
      by_cases h0 : posn s i = 0
      · rw [if_pos (.inl h0), h0]
        rfl
      · rw [if_neg (by omega), decide_eq_false h0, Bool.false_or]
        obtain ⟨k, rfl⟩ : ∃ k, i = k + 1 := ⟨i - 1, by
          by_cases c : i = 0
          · subst c; exact absurd rfl h0
          · omega⟩
        have hk := hlt k (by omega)
        have e : posn s (k + 1) = posn s k + wd s (posn s k) := posn_step s k hk
        have hl := last_sign s k hk
        rw [← e] at hl
        rw [hl]
        rfl
end Go.Sg
