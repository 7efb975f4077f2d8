/-
  Laid together by packg.py of Jqr Jqs.
-/
import Derived.Test.YtcakkkafanpjaaaGreatDoorQaI
import Derived.Lib.MapLaws
import Derived.Lib.ValidLaws
import Derived.Lib.TrimUEq
import Derived.Lib.TrimAscii
namespace Go.Jv
open Go.Lib
set_option maxHeartbeats 2000000 in
theorem decN_same (n b0 b1 b2 b3 n' c1 c2 c3 : Nat) (h : ¬ ((decodeN n b0 b1 b2 b3).1 = 65533 ∧ (decodeN n b0 b1 b2 b3).2 = 1)) (hn : (decodeN n b0 b1 b2 b3).2 ≤ n') (e1 : 1 < (decodeN n b0 b1 b2 b3).2 → c1 = b1) (e2 : 2 < (decodeN n b0 b1 b2 b3).2 → c2 = b2) (e3 : 3 < (decodeN n b0 b1 b2 b3).2 → c3 = b3) :
    decodeN n' b0 c1 c2 c3 = decodeN n b0 b1 b2 b3 := by
  unfold decodeN at h hn e1 e2 e3 ⊢
  by_cases a0 : b0 < 128
  · simp only [if_pos a0]
  · simp only [if_neg a0] at h hn e1 e2 e3 ⊢
    by_cases a1 : b0 / 32 = 6 ∧ (1 < n ∧ b1 / 64 = 2)
    · simp only [if_pos a1] at h hn e1 e2 e3 ⊢
      by_cases d1 : b0 % 32 * 64 + b1 % 64 ≥ 128
      · simp only [if_pos d1] at h hn e1 e2 e3 ⊢
        have q := e1 (by omega)
        subst q
        rw [if_pos ⟨a1.1, by omega, a1.2.2⟩, if_pos d1]
      · simp only [if_neg d1] at h
        exact absurd ⟨trivial, trivial⟩ h
    · simp only [if_neg a1] at h hn e1 e2 e3 ⊢
      by_cases a2 : b0 / 16 = 14 ∧ (1 < n ∧ b1 / 64 = 2) ∧ (2 < n ∧ b2 / 64 = 2)
      · simp only [if_pos a2] at h hn e1 e2 e3 ⊢
        split at h
        · rename_i d2
          simp only [if_pos d2] at hn e1 e2 e3 ⊢
          have q1 := e1 (by omega)
          have q2 := e2 (by omega)
          subst q1 q2
          rw [if_neg (by omega), if_pos ⟨a2.1, ⟨by omega, a2.2.1.2⟩, ⟨by omega, a2.2.2.2⟩⟩, if_pos d2]
        · exact absurd ⟨rfl, rfl⟩ h
      · simp only [if_neg a2] at h hn e1 e2 e3 ⊢
        by_cases a3 : b0 / 8 = 30 ∧ (1 < n ∧ b1 / 64 = 2) ∧ (2 < n ∧ b2 / 64 = 2) ∧ (3 < n ∧ b3 / 64 = 2)
        · simp only [if_pos a3] at h hn e1 e2 e3 ⊢
          split at h
          · rename_i d3
            simp only [if_pos d3] at hn e1 e2 e3 ⊢
            have q1 := e1 (by omega)
            have q2 := e2 (by omega)
            have q3 := e3 (by omega)
            subst q1 q2 q3
            rw [if_neg (by omega), if_neg (by omega), if_pos ⟨a3.1, ⟨by omega, a3.2.1.2⟩, ⟨by omega, a3.2.2.1.2⟩, ⟨by omega, a3.2.2.2.2⟩⟩, if_pos d3]
          · exact absurd ⟨rfl, rfl⟩ h
        · simp only [if_neg a3] at h
          exact absurd ⟨trivial, trivial⟩ h
set_option maxHeartbeats 2000000 in
/-- A sequence that is right is whole; behind its first byte are great ones. -/
theorem decN_full (n b0 b1 b2 b3 : Nat) (l0 : b0 < 256) (l1 : b1 < 256) (l2 : b2 < 256) (l3 : b3 < 256) (hb : 128 ≤ b0) (h : ¬ ((decodeN n b0 b1 b2 b3).1 = 65533 ∧ (decodeN n b0 b1 b2 b3).2 = 1)) :
    firstT b0 % 8 = (decodeN n b0 b1 b2 b3).2 ∧ (1 < (decodeN n b0 b1 b2 b3).2 → 128 ≤ b1) ∧ (2 < (decodeN n b0 b1 b2 b3).2 → 128 ≤ b2) ∧ (3 < (decodeN n b0 b1 b2 b3).2 → 128 ≤ b3) ∧ (decodeN n b0 b1 b2 b3).2 ≤ 4 := by
  unfold decodeN at h ⊢
  rw [if_neg (by omega)] at h ⊢
  split at h
  · rename_i a1
    rw [if_pos a1]
    split at h
    · rename_i d
      rw [if_pos d]
      refine ⟨?_, fun _ => by omega, fun h => absurd h (by simp), fun h => absurd h (by simp), by simp⟩
      unfold firstT
      repeat' split
      all_goals first | rfl | (exfalso; omega)
    · exact absurd ⟨rfl, rfl⟩ h
  · rename_i a1
    rw [if_neg a1]
    split at h
    · rename_i a2
      rw [if_pos a2]
      split at h
      · rename_i d
        rw [if_pos d]
        refine ⟨?_, fun _ => by omega, fun _ => by omega, fun h => absurd h (by simp), by simp⟩
        unfold firstT
        repeat' split
        all_goals first | rfl | (exfalso; omega)
      · exact absurd ⟨rfl, rfl⟩ h
    · rename_i a2
      rw [if_neg a2]
      split at h
      · rename_i a3
        rw [if_pos a3]
        split at h
        · rename_i d
          rw [if_pos d]
          refine ⟨?_, fun _ => by omega, fun _ => by omega, fun _ => by omega, by simp⟩
          unfold firstT
          repeat' split
          all_goals first | rfl | (exfalso; omega)
        · exact absurd ⟨rfl, rfl⟩ h
      · exact absurd ⟨rfl, rfl⟩ h
end Go.Jv
namespace Go.Jv
open Go.Lib
theorem sx_len (t : ByteArray) (p : Nat) : (t.data.toList.drop p).length = t.size - p := by
  rw [List.length_drop, Array.length_toList]; rfl
theorem sx_next {t : ByteArray} {p : Nat} {c : UInt8} {l : List UInt8} (h : t.data.toList.drop p = c :: l) : p < t.size ∧ t.get! p = c ∧ t.data.toList.drop (p + 1) = l := by
  have h1 := sx_len t p
  rw [h] at h1
  simp at h1
  refine ⟨by omega, ?_, ?_⟩
  · have := Sg.get!_drop t p 0
    rw [h] at this
    simpa using this
  · rw [← List.drop_drop, h]; rfl
theorem sx_size {t : ByteArray} {p : Nat} {l : List UInt8} (h : t.data.toList.drop p = l) : t.size - p = l.length := by rw [← h, sx_len]
theorem sx_app {t : ByteArray} {p : Nat} {a b : List UInt8} (h : t.data.toList.drop p = a ++ b) : t.data.toList.drop (p + a.length) = b := by
  rw [← List.drop_drop, h]; simp
theorem enc_ascii (c : UInt8) (h : c.toNat < 128) : encodeRune ((c.toNat : Nat) : Int) = [c] := by
  have h1 := decodeL_ascii c [] h
  have h2 := encode_decode [c] (by simp) (by rw [h1]; simp; omega)
  rw [h1] at h2
  exact h2
theorem esc_simple {t : ByteArray} {p : Nat} {c x : UInt8} {l : List UInt8} (h : t.data.toList.drop p = 92 :: c :: l) (he : escOf c = some x) : escape t p = .ok (x.toNat, p + 2) := by
  obtain ⟨-, -, h2⟩ := sx_next h
  obtain ⟨g1, g2, -⟩ := sx_next h2
  unfold escape next
  rw [if_pos g1, g2]
  simp only [R.bind, he]
theorem esc_unit {t : ByteArray} {p d1 d2 : Nat} {h1 h2 : UInt8} {l : List UInt8} (h : t.data.toList.drop p = 92 :: 117 :: 48 :: 48 :: h1 :: h2 :: l) (e1 : hexOf h1 = some d1) (e2 : hexOf h2 = some d2) (hs : 16 * d1 + d2 < 55296) : escape t p = .ok (16 * d1 + d2, p + 6) := by
  obtain ⟨a0, b0, s1⟩ := sx_next h
  obtain ⟨a1, b1, s2⟩ := sx_next s1
  obtain ⟨a2, b2, s3⟩ := sx_next s2
  obtain ⟨a3, b3, s4⟩ := sx_next s3
  obtain ⟨a4, b4, s5⟩ := sx_next s4
  obtain ⟨a5, b5, -⟩ := sx_next s5
  have hz : hexOf 48 = some 0 := by decide
  have hn : escOf 117 = none := by decide
  have hu : unit t p p = .ok (16 * d1 + d2) := by
    unfold unit
    simp only [unitFrom, if_pos a0, if_pos a1, if_pos a2, if_pos a3, if_pos a4, if_pos a5, b0, b1, b2, b3, b4, b5, hz, e1, e2, if_true]
    simp
  unfold escape next
  rw [if_pos a1, b1]
  simp only [R.bind, hn, hu]
  rw [if_pos (.inl hs)]
/-- A sign that is not escaped. -/
theorem sign_sx {t : ByteArray} {p : Nat} {l r : List UInt8} (hne : l ≠ []) (hv : ¬ ((decodeL l).1 = 65533 ∧ (decodeL l).2 = 1)) (h : t.data.toList.drop p = l.take (decodeL l).2 ++ r) : signAt t p = .ok ((decodeL l).1, p + (decodeL l).2) := by
  have hle := decodeL_le l hne
  have hpos := decodeL_width l
  have hD : Utf8.decode t p = decodeL l := by
    rw [← decodeL_drop, h, decodeL_N]
    have hN := decodeL_N l
    have hg : ∀ j, j < (decodeL l).2 → (l.take (decodeL l).2 ++ r).getD j 0 = l.getD j 0 := fun j hj => by
      rw [List.getD_eq_getElem?_getD, List.getD_eq_getElem?_getD, List.getElem?_append_left (by rw [List.length_take]; omega), List.getElem?_take, if_pos hj]
    rw [hN] at hv hg hle ⊢
    have e0 := hg 0 (by rw [← hN]; omega)
    rw [e0]
    refine decN_same _ _ _ _ _ _ _ _ _ hv (by rw [List.length_append, List.length_take]; omega) (fun hk => by rw [hg 1 hk]) (fun hk => by rw [hg 2 hk]) (fun hk => by rw [hg 3 hk])
  unfold signAt
  have hfull : fullAt t p = true := by
    unfold fullAt fullN
    rw [sx_size h]
    have hlen : (decodeL l).2 ≤ (l.take (decodeL l).2 ++ r).length := by rw [List.length_append, List.length_take]; omega
    have g0 : t.get! p = l.getD 0 0 := by
      have := Sg.get!_drop t p 0
      rw [Nat.add_zero] at this
      rw [this, h, List.getD_eq_getElem?_getD, List.getD_eq_getElem?_getD, List.getElem?_append_left (by rw [List.length_take]; omega), List.getElem?_take, if_pos (by omega)]
    rw [g0]
    have hN := decodeL_N l
    by_cases h128 : 128 ≤ (l.getD 0 0).toNat
    · have := (decN_full l.length (l.getD 0 0).toNat (l.getD 1 0).toNat (l.getD 2 0).toNat (l.getD 3 0).toNat (UInt8.toNat_lt _) (UInt8.toNat_lt _) (UInt8.toNat_lt _) (UInt8.toNat_lt _) h128 (by rw [← hN]; exact hv)).1
      rw [if_pos (by rw [this, ← hN]; exact hlen)]
    · have : firstT (l.getD 0 0).toNat = 240 := by unfold firstT; rw [if_pos (by omega)]
      rw [this, if_pos (Nat.zero_le _)]
  have hne2 : ¬ decodeL l = (65533, 1) := fun e => hv (by rw [e]; exact ⟨rfl, rfl⟩)
  rw [if_neg (by rw [hfull]; simp), hD, if_neg hne2]
theorem qBytes_app (a b : List UInt8) : qBytes (a ++ b) = qBytes a ++ qBytes b := by simp [qBytes]
theorem qByte_high (c : UInt8) (h : 128 ≤ c.toNat) : qByte c = [c] := by
  unfold qByte
  have h1 : ¬ (c = 34 ∨ c = 92) := by rintro (rfl | rfl) <;> simp at h
  have n : ∀ k : UInt8, k.toNat < 128 → ¬ c = k := fun k hk e => by subst e; omega
  rw [if_neg h1, if_neg (n 8 (by decide)), if_neg (n 12 (by decide)), if_neg (n 10 (by decide)), if_neg (n 13 (by decide)), if_neg (n 9 (by decide)), if_neg (fun hlt => by have := UInt8.lt_iff_toNat_lt.1 hlt; simp at this; omega)]
theorem qBytes_high : ∀ l : List UInt8, (∀ c ∈ l, 128 ≤ c.toNat) → qBytes l = l
  | [], _ => rfl
  | c :: l, h => by
    have := qBytes_high l (fun x hx => h x (by simp [hx]))
    rw [show qBytes (c :: l) = qByte c ++ qBytes l from rfl, qByte_high c (h c (by simp)), this]; rfl
/-- The first sign's bytes are great where its first one is. -/
theorem take_high {c : UInt8} {l : List UInt8} (hv : ¬ ((decodeL (c :: l)).1 = 65533 ∧ (decodeL (c :: l)).2 = 1)) (hc : 128 ≤ c.toNat) : ∀ x ∈ (c :: l).take (decodeL (c :: l)).2, 128 ≤ x.toNat := by
  have hN := decodeL_N (c :: l)
  have hf := decN_full (c :: l).length ((c :: l).getD 0 0).toNat ((c :: l).getD 1 0).toNat ((c :: l).getD 2 0).toNat ((c :: l).getD 3 0).toNat (UInt8.toNat_lt _) (UInt8.toNat_lt _) (UInt8.toNat_lt _) (UInt8.toNat_lt _) hc (by rw [← hN]; exact hv)
  rw [← hN] at hf
  obtain ⟨-, f1, f2, f3, f4⟩ := hf
  intro x hx
  obtain ⟨j, hj⟩ := List.mem_iff_getElem?.1 hx
  rw [List.getElem?_take] at hj
  split at hj
  · rename_i hlt
    have e : x = (c :: l).getD j 0 := by rw [List.getD_eq_getElem?_getD, hj]; rfl
    have : j = 0 ∨ j = 1 ∨ j = 2 ∨ j = 3 := by omega
    rcases this with rfl | rfl | rfl | rfl
    · rw [e]; exact hc
    · rw [e]; exact f1 hlt
    · rw [e]; exact f2 hlt
    · rw [e]; exact f3 hlt
  · cases hj
theorem hex_all : ∀ x : Fin 16, hexOf (hexL.getD x.val 0) = some x.val := by decide
/-- A small byte, as it is printed, is read as itself. -/
theorem esc_low {t : ByteArray} {p : Nat} {c : UInt8} {r : List UInt8} (hc : c.toNat < 32 ∨ c = 34 ∨ c = 92) (h : t.data.toList.drop p = qByte c ++ r) : ∃ l, qByte c = 92 :: l ∧ escape t p = .ok (c.toNat, p + (qByte c).length) := by
  unfold qByte at h ⊢
  split at h
  · rename_i h1
    rw [if_pos h1]
    refine ⟨_, rfl, ?_⟩
    rw [esc_simple (c := c) (x := c) h (by rcases h1 with rfl | rfl <;> decide)]; rfl
  · rename_i h1
    rw [if_neg h1]
    split at h
    · rename_i h2
      rw [if_pos h2]; refine ⟨_, rfl, ?_⟩
      rw [esc_simple (c := 98) (x := 8) h (by decide), h2]; rfl
    · rename_i h2
      rw [if_neg h2]
      split at h
      · rename_i h3
        rw [if_pos h3]; refine ⟨_, rfl, ?_⟩
        rw [esc_simple (c := 102) (x := 12) h (by decide), h3]; rfl
      · rename_i h3
        rw [if_neg h3]
        split at h
        · rename_i h4
          rw [if_pos h4]; refine ⟨_, rfl, ?_⟩
          rw [esc_simple (c := 110) (x := 10) h (by decide), h4]; rfl
        · rename_i h4
          rw [if_neg h4]
          split at h
          · rename_i h5
            rw [if_pos h5]; refine ⟨_, rfl, ?_⟩
            rw [esc_simple (c := 114) (x := 13) h (by decide), h5]; rfl
          · rename_i h5
            rw [if_neg h5]
            split at h
            · rename_i h6
              rw [if_pos h6]; refine ⟨_, rfl, ?_⟩
              rw [esc_simple (c := 116) (x := 9) h (by decide), h6]; rfl
            · rename_i h6
              rw [if_neg h6]
              have h32 : c.toNat < 32 := by
                rcases hc with hc | hc | hc
                · exact hc
                · exact absurd (.inl hc) h1
                · exact absurd (.inr hc) h1
              have h7 : c < 32 := UInt8.lt_iff_toNat_lt.2 h32
              rw [if_pos h7] at h ⊢
              refine ⟨_, rfl, ?_⟩
              rw [esc_unit (d1 := c.toNat / 16) (d2 := c.toNat % 16) h (hex_all ⟨c.toNat / 16, by omega⟩) (hex_all ⟨c.toNat % 16, by omega⟩) (by omega)]
              have e : 16 * (c.toNat / 16) + c.toNat % 16 = c.toNat := by omega
              rw [e]; rfl
theorem qByte_mid {c : UInt8} (h1 : ¬ c.toNat < 32) (h2 : ¬ c = 34) (h3 : ¬ c = 92) : qByte c = [c] := by
  unfold qByte
  have n : ∀ k : UInt8, k.toNat < 32 → ¬ c = k := fun k hk e => by subst e; omega
  rw [if_neg (by simp [h2, h3]), if_neg (n 8 (by decide)), if_neg (n 12 (by decide)), if_neg (n 10 (by decide)), if_neg (n 13 (by decide)), if_neg (n 9 (by decide)), if_neg (fun hlt => h1 (UInt8.lt_iff_toNat_lt.1 hlt))]
/-- 'quoted', behind its first quote, at what was printed. -/
theorem quotedFrom_q : ∀ (n : Nat) (l : List UInt8), l.length ≤ n → validD l = true → ∀ (t : ByteArray) (p f : Nat) (rest out : List UInt8), t.data.toList.drop p = qBytes l ++ 34 :: rest → l.length < f → quotedFrom t f p out = .ok (⟨(out ++ l).toArray⟩, p + (qBytes l).length + 1) := by
  have nil : ∀ (t : ByteArray) (p f : Nat) (rest out : List UInt8), t.data.toList.drop p = qBytes [] ++ 34 :: rest → 0 < f → quotedFrom t f p out = .ok (⟨(out ++ []).toArray⟩, p + (qBytes []).length + 1) := by
    intro t p f rest out h hf
    obtain ⟨f, rfl⟩ : ∃ g, f = g + 1 := ⟨f - 1, by omega⟩
    obtain ⟨a, b, -⟩ := sx_next (c := 34) (l := rest) h
    rw [quotedFrom]
    unfold next
    rw [if_pos a, b, List.append_nil]
    rfl
  intro n
  induction n with
  | zero =>
    intro l hl _ t p f rest out h hf
    obtain rfl := List.eq_nil_of_length_eq_zero (Nat.le_zero.1 hl)
    exact nil t p f rest out h (by omega)
  | succ n ih =>
    intro l hl hv t p f rest out h hf
    cases l with
    | nil => exact nil t p f rest out h (by omega)
    | cons c l =>
      obtain ⟨f, rfl⟩ : ∃ g, f = g + 1 := ⟨f - 1, by omega⟩
      rw [validD_step _ (by simp)] at hv
      split at hv
      · cases hv
      · rename_i hw
        have hpos := decodeL_width (c :: l)
        have hle := decodeL_le (c :: l) (by simp)
        have hsplit : (c :: l) = (c :: l).take (decodeL (c :: l)).2 ++ (c :: l).drop (decodeL (c :: l)).2 := (List.take_append_drop _ _).symm
        by_cases h128 : 128 ≤ c.toNat
        · -- a great sign
          have hq : qBytes (c :: l) = (c :: l).take (decodeL (c :: l)).2 ++ qBytes ((c :: l).drop (decodeL (c :: l)).2) := by
            conv => lhs; rw [hsplit, qBytes_app, qBytes_high _ (take_high hw h128)]
          rw [hq, List.append_assoc] at h
          have hsg := sign_sx (by simp) hw h
          have hlen : ((c :: l).take (decodeL (c :: l)).2).length = (decodeL (c :: l)).2 := by rw [List.length_take]; omega
          have hx := sx_app h
          rw [hlen] at hx
          obtain ⟨a, b, -⟩ := sx_next (c := c) (l := l.take ((decodeL (c :: l)).2 - 1) ++ (qBytes ((c :: l).drop (decodeL (c :: l)).2) ++ 34 :: rest)) (by
            rw [h]
            have : (decodeL (c :: l)).2 = (decodeL (c :: l)).2 - 1 + 1 := by omega
            conv => lhs; rw [this, List.take_succ_cons]
            rw [List.cons_append, ← this])
          have n34 : ¬ c = 34 := fun e => by subst e; simp at h128
          have n92 : ¬ c = 92 := fun e => by subst e; simp at h128
          have n32 : ¬ c < 32 := fun e => by have := UInt8.lt_iff_toNat_lt.1 e; simp at this; omega
          rw [quotedFrom]
          unfold next
          rw [if_pos a, b]
          simp only [R.bind, if_neg n34, if_neg n92, if_neg n32, hsg]
          rw [encode_decode _ (by simp) hw]
          have hil : ((c :: l).drop (decodeL (c :: l)).2).length ≤ n := by rw [List.length_drop]; simp at hl ⊢; omega
          rw [ih _ hil hv t _ f rest _ hx (by rw [List.length_drop]; simp at hf ⊢; omega)]
          rw [List.append_assoc, List.take_append_drop, hq, List.length_append, hlen]
          congr 2
          omega
        · have ha : c.toNat < 128 := by omega
          have hd := decodeL_ascii c l ha
          rw [hd] at hv
          have hv' : validD l = true := hv
          have hq : qBytes (c :: l) = qByte c ++ qBytes l := rfl
          rw [hq, List.append_assoc] at h
          have hx := sx_app h
          have hil : l.length ≤ n := by simp at hl; omega
          have hIH := fun o => ih l hil hv' t (p + (qByte c).length) f rest o hx (by simp at hf; omega)
          by_cases hlow : c.toNat < 32 ∨ c = 34 ∨ c = 92
          · obtain ⟨m, hm, hesc⟩ := esc_low hlow h
            rw [hm] at h
            obtain ⟨a, b, -⟩ := sx_next (c := 92) (l := m ++ (qBytes l ++ 34 :: rest)) h
            rw [quotedFrom]
            unfold next
            rw [if_pos a, b]
            simp only [R.bind, hesc]
            rw [if_neg (by decide), if_neg (by decide), if_pos trivial, enc_ascii c ha, hIH, hq, List.length_append]
            simp
            omega
          · have h1 : ¬ c.toNat < 32 := fun e => hlow (.inl e)
            have h2 : ¬ c = 34 := fun e => hlow (.inr (.inl e))
            have h3 : ¬ c = 92 := fun e => hlow (.inr (.inr e))
            have hqm := qByte_mid h1 h2 h3
            have hsg := sign_sx (l := c :: l) (r := qBytes l ++ 34 :: rest) (by simp) hw (by rw [hd, h, hqm]; rfl)
            rw [hqm] at h hIH
            obtain ⟨a, b, -⟩ := sx_next (c := c) (l := qBytes l ++ 34 :: rest) h
            rw [quotedFrom]
            unfold next
            rw [if_pos a, b]
            simp only [R.bind, if_neg h2, if_neg h3, if_neg (fun e => h1 (UInt8.lt_iff_toNat_lt.1 e) : ¬ c < 32), hsg, hd]
            rw [enc_ascii c ha]
            have := hIH (out ++ [c])
            simp only [List.length_singleton] at this
            rw [this, hq, hqm, List.length_append]
            simp
            omega
theorem qBytes_ge : ∀ l : List UInt8, l.length ≤ (qBytes l).length
  | [] => Nat.zero_le _
  | c :: l => by
    have h1 := qBytes_ge l
    have h2 := (qByte_len c).1
    rw [show qBytes (c :: l) = qByte c ++ qBytes l from rfl, List.length_append, List.length_cons]; omega
theorem quoted_q {s : ByteArray} (hv : validD s.data.toList = true) {t : ByteArray} {p : Nat} {rest : List UInt8} (h : t.data.toList.drop p = qText s ++ rest) : quoted t p = .ok (s, p + (qText s).length) := by
  have h' : t.data.toList.drop p = 34 :: (qBytes s.data.toList ++ 34 :: rest) := by rw [h]; simp [qText]
  obtain ⟨a, b, c⟩ := sx_next h'
  unfold quoted take
  rw [if_pos ⟨a, b⟩]
  simp only [R.bind]
  have hz := sx_size c
  have hlen := qBytes_ge s.data.toList
  rw [quotedFrom_q _ _ (Nat.le_refl _) hv t (p + 1) _ rest [] c (by rw [List.length_append] at hz; simp at hz; omega)]
  simp [qText]
  omega
end Go.Jv
