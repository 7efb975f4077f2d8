/-
  What is cut off is no value: a beginning of a printed list is told by a fault of syntax, at its end at the latest. Nothing of the program.
-/
import Derived.Test.YtejibjeidklnkaaGreatDoorJtk
namespace Go.Jv
open Go.Lib
/-- A text that ends ahead of its end: a fault of syntax, or something that ends with it. -/
def Ct (r : R (V × Nat)) (n : Nat) : Prop := (∃ p, p ≤ n ∧ r = .bad p eSyntax) ∨ ∃ v, r = .ok (v, n)
/-- A fault of syntax. -/
def Cb {α : Type} (r : R α) (n : Nat) : Prop := ∃ p, p ≤ n ∧ r = .bad p eSyntax
theorem Cb.bind {α β : Type} {r : R α} {n : Nat} (h : Cb r n) (f : α → R β) : Cb (r.bind f) n := by
  obtain ⟨p, hp, rfl⟩ := h
  exact ⟨p, hp, rfl⟩
theorem end_size {t : ByteArray} {p : Nat} (h : t.data.toList.drop p = []) (hp : p ≤ t.size) : p = t.size := by
  have := sx_len t p
  rw [h] at this
  simp at this
  omega
theorem next_nil {t : ByteArray} {p : Nat} (h : t.data.toList.drop p = []) (hp : p ≤ t.size) : next t p = .bad p eSyntax := by
  unfold next
  rw [if_neg (by have := end_size h hp; omega)]
theorem take_nil {t : ByteArray} {p : Nat} {c : UInt8} (h : t.data.toList.drop p = []) (hp : p ≤ t.size) : take t p c = .bad p eSyntax := by
  unfold take
  rw [if_neg (by have := end_size h hp; omega)]
theorem cb_next {t : ByteArray} {p : Nat} (h : t.data.toList.drop p = []) (hp : p ≤ t.size) : Cb (next t p) t.size := ⟨p, hp, next_nil h hp⟩
/-- Two ways to part a list. -/
theorem app_two {α : Type} : ∀ {a b c d : List α}, a ++ b = c ++ d → (∃ e, a = c ++ e ∧ d = e ++ b) ∨ ∃ e, e ≠ [] ∧ c = a ++ e ∧ b = e ++ d
  | a, b, [], d, h => .inl ⟨a, rfl, by simpa using h.symm⟩
  | [], b, x :: c, d, h => .inr ⟨x :: c, by simp, rfl, by simpa using h⟩
  | x :: a, b, y :: c, d, h => by
    simp only [List.cons_append, List.cons.injEq] at h
    obtain ⟨rfl, h⟩ := h
    rcases app_two h with ⟨e, rfl, rfl⟩ | ⟨e, he, rfl, rfl⟩
    · exact .inl ⟨e, rfl, rfl⟩
    · exact .inr ⟨e, he, rfl, rfl⟩
theorem sx_le {t : ByteArray} {p : Nat} {a b : List UInt8} (h : t.data.toList.drop p = a ++ b) (hp : p ≤ t.size) : p + a.length ≤ t.size := by
  have := sx_size h
  simp at this
  omega
theorem sx_all {t : ByteArray} {p : Nat} {a : List UInt8} (h : t.data.toList.drop p = a) (hp : p ≤ t.size) : p + a.length = t.size := by
  have := sx_size h
  omega
/-- A word that is cut off. -/
theorem word_cut {t : ByteArray} {p : Nat} {j : List UInt8} (h : t.data.toList.drop p = j) (hl : ∀ c ∈ j, isLetter c = true) (h1 : j ≠ [110, 117, 108, 108]) (h2 : j ≠ [116, 114, 117, 101]) (h3 : j ≠ [102, 97, 108, 115, 101]) : word t p = .bad p eSyntax := by
  have h' : t.data.toList.drop p = j ++ [] := by simpa using h
  unfold word
  rw [run_sx h' hl (by simp)]
  simp only
  rw [sub_sx h']
  simp only
  rw [if_neg h1, if_neg h2, if_neg h3]
theorem value_word {t : ByteArray} {p d : Nat} {c : UInt8} {j : List UInt8} (h : t.data.toList.drop p = c :: j) (hl : ∀ x ∈ c :: j, isLetter x = true) (h1 : c :: j ≠ [110, 117, 108, 108]) (h2 : c :: j ≠ [116, 114, 117, 101]) (h3 : c :: j ≠ [102, 97, 108, 115, 101]) (hp : p ≤ t.size) : Ct (value t d p) t.size := by
  refine .inl ⟨p, hp, ?_⟩
  cases d <;> (rw [value, next_sx h]; simp only [R.bind]; rw [if_pos (hl c (by simp)), word_cut h hl h1 h2 h3])
/-- The first digits of a number are a number's. -/
theorem dz_pre : ∀ (n u : Nat), u ≤ n → ∀ j k, dz u = j ++ k → ∃ v, v ≤ u ∧ j = dz v := by
  intro n
  induction n with
  | zero =>
    intro u hu j k h
    obtain rfl : u = 0 := by omega
    have : j = [] := by
      have : dz 0 = [] := rfl
      rw [this] at h
      exact (List.append_eq_nil_iff.1 h.symm).1
    exact ⟨0, Nat.le_refl _, this⟩
  | succ n ih =>
    intro u hu j k h
    by_cases h0 : u = 0
    · subst h0
      exact ih 0 (by omega) j k h
    · rcases List.eq_nil_or_concat k with rfl | ⟨k', c, rfl⟩
      · exact ⟨u, Nat.le_refl _, by simpa using h.symm⟩
      · rw [dz_step u h0, List.concat_eq_append, ← List.append_assoc] at h
        have h2 := (List.append_inj' h rfl).1
        obtain ⟨v, hv, e⟩ := ih (u / 10) (by omega) j k' h2
        exact ⟨v, by omega, e⟩
theorem itoa_pre {n : Int} {j k : List UInt8} (h : itoa n = j ++ k) (hj : j ≠ []) : j = [45] ∨ ∃ m : Int, j = itoa m ∧ m.natAbs ≤ n.natAbs := by
  rw [itoa_dz] at h
  split at h
  · rename_i hn
    cases j with
    | nil => exact absurd rfl hj
    | cons c j =>
      simp only [List.cons_append, List.cons.injEq] at h
      obtain ⟨rfl, h⟩ := h
      obtain ⟨v, hv, rfl⟩ := dz_pre _ _ (Nat.le_refl _) _ _ h
      by_cases h0 : v = 0
      · subst h0; exact .inl rfl
      · refine .inr ⟨-(v : Int), ?_, by omega⟩
        rw [itoa_dz, if_pos (by omega)]
        simp
  · split at h
    · rename_i h0
      subst h0
      refine .inr ⟨0, ?_, Nat.le_refl _⟩
      cases j with
      | nil => exact absurd rfl hj
      | cons c j =>
        simp only [List.cons_append, List.cons.injEq] at h
        obtain ⟨rfl, h⟩ := h
        obtain rfl := (List.append_eq_nil_iff.1 h.symm).1
        rw [itoa_dz, if_neg (by omega), if_pos rfl]
    · rename_i hn h0
      obtain ⟨v, hv, rfl⟩ := dz_pre _ _ (Nat.le_refl _) _ _ h
      have hv0 : v ≠ 0 := fun e => hj (by subst e; rfl)
      refine .inr ⟨v, ?_, by omega⟩
      rw [itoa_dz, if_neg (by omega), if_neg (by omega)]
      simp
theorem value_num {t : ByteArray} {p d : Nat} {n : Int} {j k : List UInt8} (h : t.data.toList.drop p = j) (hj : j ≠ []) (hk : itoa n = j ++ k) (h0 : -maxInt ≤ n) (h1 : n ≤ maxInt) (hp : p ≤ t.size) : Ct (value t d p) t.size := by
  have hz := sx_all h hp
  have h' : t.data.toList.drop p = j ++ [] := by simpa using h
  rcases itoa_pre hk hj with rfl | ⟨m, rfl, hm⟩
  · refine .inl ⟨p, hp, ?_⟩
    have hn : number t p = .bad p eSyntax := by
      unfold number
      rw [run_sx h' (by decide) (by simp)]
      simp only
      rw [sub_sx h', if_neg (by decide)]
    cases d <;> (rw [value, next_sx h]; simp only [R.bind]; rw [if_neg (by decide), if_pos (by decide), hn])
  · have hM : maxInt = 9007199254740991 := rfl
    refine .inr ⟨.int m, ?_⟩
    rw [← hz]
    exact value_scalar d (v := .int m) ⟨by omega, by omega⟩ h' stp_nil
/-- An escape that is cut off. -/
theorem esc_cut {t : ByteArray} {p : Nat} {c : UInt8} {j k : List UInt8} (hc : c.toNat < 32 ∨ c = 34 ∨ c = 92) (h : t.data.toList.drop p = j) (hj : j ≠ []) (hk : qByte c = j ++ k) (hn : k ≠ []) (_hp : p ≤ t.size) : (∃ r, j = 92 :: r) ∧ Cb (escape t p) t.size := by
  have two : ∀ x : UInt8, [92, x] = j ++ k → (∃ r, j = 92 :: r) ∧ Cb (escape t p) t.size := by
    intro x hx
    match j, hj with
    | [a], _ =>
      simp at hx
      obtain ⟨rfl, -⟩ := hx
      obtain ⟨a1, -, h2⟩ := sx_next h
      refine ⟨⟨[], rfl⟩, ?_⟩
      unfold escape
      exact (cb_next h2 (by omega)).bind _
    | a :: b :: r, _ =>
      simp only [List.cons_append, List.cons.injEq] at hx
      obtain ⟨-, -, hx⟩ := hx
      exact absurd (List.append_eq_nil_iff.1 hx.symm).2 hn
  unfold qByte at hk
  split at hk
  · exact two _ hk
  split at hk
  · exact two _ hk
  split at hk
  · exact two _ hk
  split at hk
  · exact two _ hk
  split at hk
  · exact two _ hk
  split at hk
  · exact two _ hk
  split at hk
  · rename_i h32
    have h32' : c.toNat < 32 := UInt8.lt_iff_toNat_lt.1 h32
    have e1 := hex_all ⟨c.toNat / 16, by omega⟩
    have e2 := hex_all ⟨c.toNat % 16, by omega⟩
    simp only at e1 e2
    generalize hexL.getD (c.toNat / 16) 0 = x1 at *
    generalize hexL.getD (c.toNat % 16) 0 = x2 at *
    have hz : hexOf 48 = some 0 := by decide
    have hesc : escOf 117 = none := by decide
    match j, hj with
    | [a], _ =>
      simp at hk
      obtain ⟨rfl, -⟩ := hk
      obtain ⟨a1, -, h2⟩ := sx_next h
      refine ⟨⟨[], rfl⟩, ?_⟩
      unfold escape
      exact (cb_next h2 (by omega)).bind _
    | [a, b], _ =>
      simp at hk
      obtain ⟨rfl, rfl, -⟩ := hk
      obtain ⟨a0, b0, s1⟩ := sx_next h
      obtain ⟨a1, b1, s2⟩ := sx_next s1
      have n2 := end_size s2 (by omega)
      refine ⟨⟨_, rfl⟩, p + 1 + 1, by omega, ?_⟩
      have hu : unit t p p = .bad (p + 1 + 1) eSyntax := by
        unfold unit
        simp only [unitFrom, if_pos a0, if_pos a1, b0, b1, if_true, if_neg (by omega : ¬ p + 1 + 1 < t.size)]
        simp
      unfold escape next
      rw [if_pos a1, b1]
      simp only [R.bind, hesc, hu]
    | [a, b, u], _ =>
      simp at hk
      obtain ⟨rfl, rfl, rfl, -⟩ := hk
      obtain ⟨a0, b0, s1⟩ := sx_next h
      obtain ⟨a1, b1, s2⟩ := sx_next s1
      obtain ⟨a2, b2, s3⟩ := sx_next s2
      have n3 := end_size s3 (by omega)
      refine ⟨⟨_, rfl⟩, p + 1 + 1 + 1, by omega, ?_⟩
      have hu : unit t p p = .bad (p + 1 + 1 + 1) eSyntax := by
        unfold unit
        simp only [unitFrom, if_pos a0, if_pos a1, if_pos a2, b0, b1, b2, hz, if_true, if_neg (by omega : ¬ p + 1 + 1 + 1 < t.size)]
        simp
      unfold escape next
      rw [if_pos a1, b1]
      simp only [R.bind, hesc, hu]
    | [a, b, u, v], _ =>
      simp at hk
      obtain ⟨rfl, rfl, rfl, rfl, -⟩ := hk
      obtain ⟨a0, b0, s1⟩ := sx_next h
      obtain ⟨a1, b1, s2⟩ := sx_next s1
      obtain ⟨a2, b2, s3⟩ := sx_next s2
      obtain ⟨a3, b3, s4⟩ := sx_next s3
      have n4 := end_size s4 (by omega)
      refine ⟨⟨_, rfl⟩, p + 1 + 1 + 1 + 1, by omega, ?_⟩
      have hu : unit t p p = .bad (p + 1 + 1 + 1 + 1) eSyntax := by
        unfold unit
        simp only [unitFrom, if_pos a0, if_pos a1, if_pos a2, if_pos a3, b0, b1, b2, b3, hz, if_true, if_neg (by omega : ¬ p + 1 + 1 + 1 + 1 < t.size)]
        simp
      unfold escape next
      rw [if_pos a1, b1]
      simp only [R.bind, hesc, hu]
    | [a, b, u, v, y], _ =>
      simp at hk
      obtain ⟨rfl, rfl, rfl, rfl, rfl, -⟩ := hk
      obtain ⟨a0, b0, s1⟩ := sx_next h
      obtain ⟨a1, b1, s2⟩ := sx_next s1
      obtain ⟨a2, b2, s3⟩ := sx_next s2
      obtain ⟨a3, b3, s4⟩ := sx_next s3
      obtain ⟨a4, b4, s5⟩ := sx_next s4
      have n5 := end_size s5 (by omega)
      refine ⟨⟨_, rfl⟩, p + 1 + 1 + 1 + 1 + 1, by omega, ?_⟩
      have hu : unit t p p = .bad (p + 1 + 1 + 1 + 1 + 1) eSyntax := by
        unfold unit
        simp only [unitFrom, if_pos a0, if_pos a1, if_pos a2, if_pos a3, if_pos a4, b0, b1, b2, b3, b4, hz, e1, if_true, if_neg (by omega : ¬ p + 1 + 1 + 1 + 1 + 1 < t.size)]
        simp
      unfold escape next
      rw [if_pos a1, b1]
      simp only [R.bind, hesc, hu]
    | a :: b :: u :: v :: y :: z :: r, _ =>
      simp only [List.cons_append, List.cons.injEq] at hk
      obtain ⟨-, -, -, -, -, -, hx⟩ := hk
      exact absurd (List.append_eq_nil_iff.1 hx.symm).2 hn
  · rename_i h1 h2 h3 h4 h5 h6 h32
    exfalso
    rcases hc with hc | hc | hc
    · exact h32 (UInt8.lt_iff_toNat_lt.2 hc)
    · exact h1 (.inl hc)
    · exact h1 (.inr hc)
set_option maxHeartbeats 2000000 in
/-- A great sign's first bytes: not all of it. -/
theorem decN_cut (n b0 b1 b2 b3 m c1 c2 : Nat) (_l1 : b1 < 256) (l2 : b2 < 256) (hb : 128 ≤ b0) (l0 : b0 < 256) (h : ¬ ((decodeN n b0 b1 b2 b3).1 = 65533 ∧ (decodeN n b0 b1 b2 b3).2 = 1)) (hm : m < (decodeN n b0 b1 b2 b3).2) (e1 : 1 < m → c1 = b1) (e2 : 2 < m → c2 = b2) : fullN m b0 c1 c2 = false := by
  unfold decodeN at h hm
  rw [if_neg (by omega)] at h hm
  split at h
  · rename_i a1
    rw [if_pos a1] at hm
    split at h
    · rename_i d
      rw [if_pos d] at hm
      simp only at hm
      unfold fullN
      have hf : firstT b0 = 2 := by
        unfold firstT
        repeat' split
        all_goals first | rfl | (exfalso; omega)
      rw [hf, if_neg (by omega), if_neg (by omega), if_neg (by omega)]
    · exact absurd ⟨rfl, rfl⟩ h
  · rename_i a1
    rw [if_neg a1] at hm
    split at h
    · rename_i a2
      rw [if_pos a2] at hm
      split at h
      · rename_i d
        rw [if_pos d] at hm
        simp only at hm
        unfold fullN
        have hf : firstT b0 % 8 = 3 ∧ (1 < m → ¬ (c1 < accLo (firstT b0 / 16) ∨ accHi (firstT b0 / 16) < c1)) := by
          unfold firstT
          repeat' split
          all_goals first | (exfalso; omega) | (refine ⟨rfl, fun hm1 => ?_⟩; have := e1 hm1; unfold accLo accHi; simp; omega)
        rw [hf.1, if_neg (by omega), if_neg (fun hh => hf.2 hh.1 hh.2), if_neg (by omega)]
      · exact absurd ⟨rfl, rfl⟩ h
    · rename_i a2
      rw [if_neg a2] at hm
      split at h
      · rename_i a3
        rw [if_pos a3] at hm
        split at h
        · rename_i d
          rw [if_pos d] at hm
          simp only at hm
          unfold fullN
          have hf : firstT b0 % 8 = 4 ∧ (1 < m → ¬ (c1 < accLo (firstT b0 / 16) ∨ accHi (firstT b0 / 16) < c1)) := by
            unfold firstT
            repeat' split
            all_goals first | (exfalso; omega) | (refine ⟨rfl, fun hm1 => ?_⟩; have := e1 hm1; unfold accLo accHi; simp; omega)
          rw [hf.1, if_neg (by omega), if_neg (fun hh => hf.2 hh.1 hh.2), if_neg (fun hh => by have := e2 hh.1; omega)]
        · exact absurd ⟨rfl, rfl⟩ h
      · exact absurd ⟨rfl, rfl⟩ h
theorem sign_cut {t : ByteArray} {p : Nat} {c : UInt8} {l j k : List UInt8} (hv : ¬ ((decodeL (c :: l)).1 = 65533 ∧ (decodeL (c :: l)).2 = 1)) (hc : 128 ≤ c.toNat) (h : t.data.toList.drop p = j) (hj : j ≠ []) (hk : (c :: l).take (decodeL (c :: l)).2 = j ++ k) (hn : k ≠ []) : signAt t p = .bad t.size eSyntax := by
  have hN := decodeL_N (c :: l)
  have hle := decodeL_le (c :: l) (by simp)
  have hlen : j.length < (decodeL (c :: l)).2 := by
    have := congrArg List.length hk
    rw [List.length_take, List.length_append] at this
    have : 0 < k.length := List.length_pos_iff.2 hn
    omega
  have hg : ∀ i, i < j.length → t.get! (p + i) = (c :: l).getD i 0 := fun i hi => by
    rw [Sg.get!_drop, h, List.getD_eq_getElem?_getD, List.getD_eq_getElem?_getD]
    have e : (j ++ k)[i]? = (c :: l)[i]? := by rw [← hk, List.getElem?_take, if_pos (by omega)]
    rw [List.getElem?_append_left hi] at e
    rw [e]
  have hpos : 0 < j.length := List.length_pos_iff.2 hj
  unfold signAt
  have hf : fullAt t p = false := by
    unfold fullAt
    rw [sx_size h]
    have g0 := hg 0 hpos
    rw [Nat.add_zero] at g0
    rw [g0]
    rw [hN] at hv hlen
    exact decN_cut _ _ _ _ _ _ _ _ (UInt8.toNat_lt _) (UInt8.toNat_lt _) hc (UInt8.toNat_lt _) hv hlen (fun h1 => by rw [hg 1 h1]) (fun h2 => by rw [hg 2 h2])
  rw [if_pos hf]
/-- A text that is cut off, behind its first quote. -/
theorem quotedFrom_cut : ∀ (n : Nat) (l : List UInt8), l.length ≤ n → validD l = true → ∀ (t : ByteArray) (p f : Nat) (j k out : List UInt8), t.data.toList.drop p = j → qBytes l = j ++ k → p ≤ t.size → Cb (quotedFrom t f p out) t.size := by
  have nil : ∀ (t : ByteArray) (p f : Nat) (out : List UInt8), t.data.toList.drop p = [] → p ≤ t.size → Cb (quotedFrom t f p out) t.size := by
    intro t p f out h hp
    cases f with
    | zero => exact ⟨p, hp, by rw [quotedFrom]⟩
    | succ f => rw [quotedFrom]; exact (cb_next h hp).bind _
  intro n
  induction n with
  | zero =>
    intro l hl _ t p f j k out h hk hp
    obtain rfl := List.eq_nil_of_length_eq_zero (Nat.le_zero.1 hl)
    obtain rfl := (List.append_eq_nil_iff.1 hk.symm).1
    exact nil t p f out h hp
  | succ n ih =>
    intro l hl hv t p f j k out h hk hp
    by_cases hj : j = []
    · subst hj; exact nil t p f out h hp
    cases f with
    | zero => exact ⟨p, hp, by rw [quotedFrom]⟩
    | succ f =>
    cases l with
    | nil => exact absurd (List.append_eq_nil_iff.1 hk.symm).1 hj
    | cons c l =>
      rw [validD_step _ (by simp)] at hv
      split at hv
      · cases hv
      · rename_i hw
        have hpos := decodeL_width (c :: l)
        have hle := decodeL_le (c :: l) (by simp)
        have hsplit : (c :: l) = (c :: l).take (decodeL (c :: l)).2 ++ (c :: l).drop (decodeL (c :: l)).2 := (List.take_append_drop _ _).symm
        by_cases h128 : 128 ≤ c.toNat
        · have hq : qBytes (c :: l) = (c :: l).take (decodeL (c :: l)).2 ++ qBytes ((c :: l).drop (decodeL (c :: l)).2) := by
            conv => lhs; rw [hsplit, qBytes_app, qBytes_high _ (take_high hw h128)]
          rw [hq] at hk
          have n34 : ¬ c = 34 := fun e => by subst e; simp at h128
          have n92 : ¬ c = 92 := fun e => by subst e; simp at h128
          have n32 : ¬ c < 32 := fun e => by have := UInt8.lt_iff_toNat_lt.1 e; simp at this; omega
          have htk : (c :: l).take (decodeL (c :: l)).2 = c :: l.take ((decodeL (c :: l)).2 - 1) := by
            obtain ⟨m, hm⟩ : ∃ m, (decodeL (c :: l)).2 = m + 1 := ⟨(decodeL (c :: l)).2 - 1, by omega⟩
            rw [hm, List.take_succ_cons, Nat.add_sub_cancel]
          have hh : ∃ r, j = c :: r := by
            cases j with
            | nil => exact absurd rfl hj
            | cons x r =>
              rw [htk] at hk
              simp only [List.cons_append, List.cons.injEq] at hk
              exact ⟨r, by rw [hk.1]⟩
          obtain ⟨r0, hr0⟩ := hh
          have hnx := next_sx (t := t) (p := p) (c := c) (l := r0) (by rw [h, hr0])
          rw [quotedFrom, hnx]
          simp only [R.bind, if_neg n34, if_neg n92, if_neg n32]
          rcases app_two hk with ⟨e, he, -⟩ | ⟨e, -, he, hb⟩
          · by_cases hen : e = []
            · subst hen
              rw [List.append_nil] at he
              have h2 : t.data.toList.drop p = (c :: l).take (decodeL (c :: l)).2 ++ [] := by rw [h, he, List.append_nil]
              have hsg := sign_sx (by simp) hw h2
              rw [hsg]
              simp only
              have hlen : ((c :: l).take (decodeL (c :: l)).2).length = (decodeL (c :: l)).2 := by rw [List.length_take]; omega
              have hx := sx_app h2
              have hxp := sx_le h2 hp
              rw [hlen] at hx hxp
              exact nil t _ f _ hx hxp
            · rw [sign_cut hw h128 h hj he hen]
              exact ⟨t.size, Nat.le_refl _, rfl⟩
          · have h2 : t.data.toList.drop p = (c :: l).take (decodeL (c :: l)).2 ++ e := by rw [h, he]
            have hsg := sign_sx (by simp) hw h2
            rw [hsg]
            simp only
            have hlen : ((c :: l).take (decodeL (c :: l)).2).length = (decodeL (c :: l)).2 := by rw [List.length_take]; omega
            have hx := sx_app h2
            have hxp := sx_le h2 hp
            rw [hlen] at hx hxp
            have hil : ((c :: l).drop (decodeL (c :: l)).2).length ≤ n := by rw [List.length_drop]; simp at hl ⊢; omega
            exact ih _ hil hv t _ f e k _ hx hb hxp
        · have ha : c.toNat < 128 := by omega
          have hd := decodeL_ascii c l ha
          rw [hd] at hv
          have hv' : validD l = true := hv
          have hq : qBytes (c :: l) = qByte c ++ qBytes l := rfl
          rw [hq] at hk
          have hil : l.length ≤ n := by simp at hl; omega
          by_cases hlow : c.toNat < 32 ∨ c = 34 ∨ c = 92
          · have hcase : (∃ e, e ≠ [] ∧ qByte c = j ++ e) ∨ ∃ e, j = qByte c ++ e ∧ qBytes l = e ++ k := by
              rcases app_two hk with ⟨e, he, hb⟩ | ⟨e, -, he, hb⟩
              · by_cases hen : e = []
                · subst hen
                  exact .inr ⟨[], by rw [he]; simp, by simpa using hb.symm⟩
                · exact .inl ⟨e, hen, he⟩
              · exact .inr ⟨e, he, hb⟩
            rcases hcase with ⟨e, hen, he⟩ | ⟨e, he, hb⟩
            · obtain ⟨⟨r, hr⟩, hc⟩ := esc_cut hlow h hj he hen hp
              have hnx := next_sx (t := t) (p := p) (c := 92) (l := r) (by rw [h, hr])
              rw [quotedFrom, hnx]
              simp only [R.bind]
              rw [if_neg (by decide), if_neg (by decide), if_pos trivial]
              exact hc.bind _
            · have h2 : t.data.toList.drop p = qByte c ++ e := by rw [h, he]
              obtain ⟨m, hm, hesc⟩ := esc_low hlow h2
              have hnx := next_sx (t := t) (p := p) (c := 92) (l := m ++ e) (by rw [h2, hm]; rfl)
              rw [quotedFrom, hnx]
              simp only [R.bind]
              rw [if_neg (by decide), if_neg (by decide), if_pos trivial, hesc]
              exact ih l hil hv' t _ f e k _ (sx_app h2) hb (sx_le h2 hp)
          · have h1 : ¬ c.toNat < 32 := fun e => hlow (.inl e)
            have h2 : ¬ c = 34 := fun e => hlow (.inr (.inl e))
            have h3 : ¬ c = 92 := fun e => hlow (.inr (.inr e))
            have hqm := qByte_mid h1 h2 h3
            rw [hqm] at hk
            cases j with
            | nil => exact absurd rfl hj
            | cons x j =>
              simp only [List.cons_append, List.cons.injEq] at hk
              obtain ⟨rfl, hk⟩ := hk
              have hsg := sign_sx (l := c :: l) (r := j) (by simp) hw (by rw [hd, h]; rfl)
              rw [quotedFrom, next_sx h]
              simp only [R.bind, if_neg h2, if_neg h3, if_neg (fun e => h1 (UInt8.lt_iff_toNat_lt.1 e) : ¬ c < 32), hsg, hd]
              obtain ⟨a1, -, hx⟩ := sx_next h
              exact ih l hil hv' t _ f j k _ hx hk (by omega)
theorem quoted_cut {s : ByteArray} (hv : validD s.data.toList = true) {t : ByteArray} {p : Nat} {j k : List UInt8} (h : t.data.toList.drop p = j) (hk : qText s = j ++ k) (hn : k ≠ []) (hp : p ≤ t.size) : Cb (quoted t p) t.size := by
  cases j with
  | nil =>
    unfold quoted
    rw [take_nil h hp]
    exact ⟨p, hp, rfl⟩
  | cons c j =>
    unfold qText at hk
    simp only [List.cons_append, List.cons.injEq] at hk
    obtain ⟨rfl, hk⟩ := hk
    obtain ⟨a, -, hx⟩ := sx_next h
    unfold quoted
    rw [take_sx h]
    simp only [R.bind]
    have hk2 : ∃ k2, qBytes s.data.toList = j ++ k2 := by
      rcases app_two hk with ⟨e, he, -⟩ | ⟨e, he, he2, hb⟩
      · exact ⟨e, he⟩
      · exfalso
        have := congrArg List.length hb
        simp at this
        have h1 : 0 < e.length := List.length_pos_iff.2 he
        have h2 : 0 < k.length := List.length_pos_iff.2 hn
        omega
    obtain ⟨k2, hk2⟩ := hk2
    exact quotedFrom_cut _ _ (Nat.le_refl _) hv t _ _ j k2 _ hx hk2 (by omega)
theorem more_nil {t : ByteArray} {q : Nat} {e : UInt8} {n : Nat} (h : t.data.toList.drop q = []) (hq : q ≤ t.size) : more t q e n = .bad q eSyntax := by
  unfold more
  rw [blank_end h, next_nil h hq]
  rfl
theorem more_comma {t : ByteArray} {q : Nat} {e : UInt8} {n : Nat} (h : t.data.toList.drop q = [44]) (he : e ≠ 44) (hn : 0 < n) : Cb (more t q e n) t.size := by
  obtain ⟨a, -, h2⟩ := sx_next h
  refine ⟨q + 1, by omega, ?_⟩
  unfold more
  rw [blank_sx h (by decide), next_sx h]
  simp only [R.bind]
  rw [if_neg (Ne.symm he), if_neg (by omega), take_sx h]
  simp only
  rw [blank_end h2, next_nil h2 (by omega)]
/-- A prefix of some items: its first sign, if any, is the first one's. -/
theorem pre_head {c : UInt8} {r j k : List UInt8} (h : c :: r = j ++ k) (hj : j ≠ []) : ∃ i, j = c :: i := by
  cases j with
  | nil => exact absurd rfl hj
  | cons x j =>
    simp only [List.cons_append, List.cons.injEq] at h
    exact ⟨j, by rw [h.1]⟩
theorem stp_preL {l : List V} {j k : List UInt8} (h : prL true l = j ++ k) : Stp j := by
  by_cases hj : j = []
  · subst hj; exact stp_nil
  · cases l with
    | nil => rw [prL] at h; exact absurd (List.append_eq_nil_iff.1 h.symm).1 hj
    | cons v l =>
      rw [prL, show comma true = [44] from rfl, List.append_assoc, List.singleton_append] at h
      obtain ⟨i, rfl⟩ := pre_head h hj
      exact stp_cons (by decide) (by decide)
theorem stp_preO {ks : List ByteArray} {l : List V} {j k : List UInt8} (h : prO true ks l = j ++ k) : Stp j := by
  by_cases hj : j = []
  · subst hj; exact stp_nil
  · cases l with
    | nil => rw [prO] at h; exact absurd (List.append_eq_nil_iff.1 h.symm).1 hj
    | cons v l =>
      cases ks with
      | nil => rw [prO] at h; exact absurd (List.append_eq_nil_iff.1 h.symm).1 hj
      | cons k0 ks =>
        rw [prO, show comma true = [44] from rfl] at h
        simp only [List.append_assoc, List.singleton_append] at h
        obtain ⟨i, rfl⟩ := pre_head h hj
        exact stp_cons (by decide) (by decide)
/-- What the reader of values does within a text that may be cut off. -/
structure Vr (t : ByteArray) (val : Nat → R (V × Nat)) (v : V) : Prop where
  ok : ∀ p r, t.data.toList.drop p = pr v ++ r → Stp r → val p = .ok (v, p + (pr v).length)
  cut : ∀ p j k, t.data.toList.drop p = j → pr v = j ++ k → k ≠ [] → p ≤ t.size → Ct (val p) t.size
theorem drop_size (t : ByteArray) : t.data.toList.drop t.size = [] := by
  have := sx_len t t.size
  rw [Nat.sub_self] at this
  exact List.eq_nil_of_length_eq_zero this
theorem list_none {t : ByteArray} {val : Nat → R (V × Nat)} {f : Nat} {had : List V} (hf : 0 < f) {q : Nat} (h : t.data.toList.drop q = []) (hq : q ≤ t.size) : Cb (listFrom t val f q had) t.size := by
  obtain ⟨f, rfl⟩ : ∃ g, f = g + 1 := ⟨f - 1, by omega⟩
  rw [listFrom, more_nil h hq]
  exact ⟨q, hq, rfl⟩
theorem obj_none {t : ByteArray} {val : Nat → R (V × Nat)} {f : Nat} {ks : List ByteArray} {had : List V} (hf : 0 < f) {q : Nat} (h : t.data.toList.drop q = []) (hq : q ≤ t.size) : Cb (objFrom t val f q ks had) t.size := by
  obtain ⟨f, rfl⟩ : ∃ g, f = g + 1 := ⟨f - 1, by omega⟩
  rw [objFrom, more_nil h hq]
  exact ⟨q, hq, rfl⟩
/-- Parting a beginning of something with a comma ahead of it. -/
theorem comma_pre {b : Bool} {x j k : List UInt8} (h : comma b ++ x = j ++ k) (hj : j ≠ []) : (b = true ∧ j = [44]) ∨ ∃ i, i ≠ [] ∧ j = comma b ++ i ∧ x = i ++ k := by
  cases b with
  | false => exact .inr ⟨j, hj, rfl, h⟩
  | true =>
    rw [show comma true = [44] from rfl, List.singleton_append] at h
    obtain ⟨i, rfl⟩ := pre_head h hj
    simp only [List.cons_append, List.cons.injEq, true_and] at h
    by_cases hi : i = []
    · subst hi; exact .inl ⟨rfl, rfl⟩
    · exact .inr ⟨i, hi, rfl, h⟩
theorem list_cut {t : ByteArray} {val : Nat → R (V × Nat)} : ∀ (l had : List V) (f q : Nat) (j k : List UInt8), (∀ v ∈ l, Vr t val v) → had.length + l.length ≤ 64 → l.length < f →
    t.data.toList.drop q = j → prL (decide (0 < had.length)) l = j ++ k → q ≤ t.size → Cb (listFrom t val f q had) t.size := by
  intro l
  induction l with
  | nil =>
    intro had f q j k _ _ hf h hk hq
    rw [prL] at hk
    obtain rfl := (List.append_eq_nil_iff.1 hk.symm).1
    exact list_none (by omega) h hq
  | cons v l ih =>
    intro had f q j k hv hl hf h hk hq
    simp only [List.length_cons] at hl hf
    by_cases hj : j = []
    · subst hj; exact list_none (by omega) h hq
    obtain ⟨f, rfl⟩ : ∃ g, f = g + 1 := ⟨f - 1, by omega⟩
    rw [prL, List.append_assoc] at hk
    obtain ⟨c, rr, hpr, hc1, hc2, hc3, hc4⟩ := pr_head v
    rcases comma_pre hk hj with ⟨hb, rfl⟩ | ⟨i, hi, rfl, hx⟩
    · rw [listFrom]
      exact (more_comma h (by decide) (of_decide_eq_true hb)).bind _
    · obtain ⟨i2, rfl⟩ : ∃ i2, i = c :: i2 := by
        rw [hpr, List.cons_append] at hx
        exact pre_head hx hi
      have hm := more_sx (t := t) (q := q) (e := 93) (c := c) (n := had.length) (b := decide (0 < had.length)) (r := i2) rfl h hc1 hc2 (by decide) (by omega)
      have h2 := sx_app h
      have hq2 := sx_le h hq
      rw [listFrom, hm]
      simp only [R.bind]
      rw [if_neg (by simp)]
      have vr := hv v (by simp)
      have hcase : (∃ e, e ≠ [] ∧ pr v = (c :: i2) ++ e) ∨ ∃ e, c :: i2 = pr v ++ e ∧ prL true l = e ++ k := by
        rcases app_two hx with ⟨e, he, hb⟩ | ⟨e, -, he, hb⟩
        · by_cases hen : e = []
          · subst hen
            exact .inr ⟨[], by rw [he]; simp, by simpa using hb.symm⟩
          · exact .inl ⟨e, hen, he⟩
        · exact .inr ⟨e, he, hb⟩
      rcases hcase with ⟨e, hen, he⟩ | ⟨e, he, hb⟩
      · rcases vr.cut _ _ e h2 he hen hq2 with ⟨p', hp', hbad⟩ | ⟨v', hok⟩
        · rw [hbad]; exact ⟨p', hp', rfl⟩
        · rw [hok]
          exact list_none (by omega) (drop_size t) (Nat.le_refl _)
      · rw [he] at h2
        rw [vr.ok _ e h2 (stp_preL hb)]
        simp only
        have hd2 : decide (0 < (had ++ [v]).length) = true := decide_eq_true (by simp)
        exact ih (had ++ [v]) f _ e k (fun x hx => hv x (by simp [hx])) (by simp; omega) (by omega) (sx_app h2) (by rw [hd2]; exact hb) (sx_le h2 hq2)
theorem key_cut {t : ByteArray} {q : Nat} {k0 : ByteArray} {ks : List ByteArray} {j k : List UInt8} (hv : validD k0.data.toList = true) (hk0 : ∀ x ∈ ks, Op.bytesLess x.data.toList k0.data.toList = true) (h : t.data.toList.drop q = 34 :: j) (hk : qText k0 ++ [58] = (34 :: j) ++ k) (hn : k ≠ []) (hq : q ≤ t.size) : Cb (key t q ks) t.size := by
  unfold key
  rw [next_sx h]
  simp only [R.bind]
  rw [if_neg (by simp)]
  rcases app_two hk with ⟨e, he, hb⟩ | ⟨e, he1, he, hb⟩
  · by_cases hen : e = []
    · subst hen
      rw [List.append_nil] at he
      have h2 : t.data.toList.drop q = qText k0 ++ [] := by rw [h, he, List.append_nil]
      rw [quoted_q hv h2]
      simp only
      have h3 := sx_app h2
      have hq3 := sx_le h2 hq
      rw [place_end hk0, if_neg (by simp), blank_end h3, take_nil h3 hq3]
      exact ⟨_, hq3, rfl⟩
    · exact (quoted_cut hv h he hen hq).bind _
  · exfalso
    have h1 : 0 < e.length := List.length_pos_iff.2 he1
    have h2 : 0 < k.length := List.length_pos_iff.2 hn
    have := congrArg List.length hb
    simp at this
    omega
theorem key_at {t : ByteArray} {q : Nat} {k : ByteArray} {ks : List ByteArray} {r : List UInt8} (hv : validD k.data.toList = true) (hk : ∀ x ∈ ks, Op.bytesLess x.data.toList k.data.toList = true) (h : t.data.toList.drop q = qText k ++ 58 :: r) (hr : ∀ c, r.head? = some c → isBlank c = false) : key t q ks = .ok (k, q + (qText k).length + 1) := by
  have h' : t.data.toList.drop q = 34 :: (qBytes k.data.toList ++ [34] ++ 58 :: r) := by rw [h]; simp [qText]
  have h2 := sx_app h
  obtain ⟨-, -, h3⟩ := sx_next h2
  have hb : blanks t (q + (qText k).length + 1) = q + (qText k).length + 1 := by
    cases r with
    | nil => exact blank_end h3
    | cons c r => exact blank_sx h3 (hr c rfl)
  unfold key
  rw [next_sx h']
  simp only [R.bind]
  rw [if_neg (by simp), quoted_q hv h]
  simp only
  rw [place_end hk, if_neg (by simp), blank_sx h2 (by decide), take_sx h2]
  simp only
  rw [hb]
theorem obj_cut {t : ByteArray} {val : Nat → R (V × Nat)} : ∀ (l : List V) (ks : List ByteArray) (had : List V) (hk : List ByteArray) (f q : Nat) (j k : List UInt8), ks.length = l.length → hk.length = had.length → Rising (hk ++ ks) → (∀ k ∈ ks, validD k.data.toList = true) → (∀ v ∈ l, Vr t val v) → had.length + l.length ≤ 64 → l.length < f →
    t.data.toList.drop q = j → prO (decide (0 < had.length)) ks l = j ++ k → q ≤ t.size → Cb (objFrom t val f q hk had) t.size := by
  intro l
  induction l with
  | nil =>
    intro ks had hk f q j k _ _ _ _ _ _ hf h hpo hq
    rw [prO] at hpo
    obtain rfl := (List.append_eq_nil_iff.1 hpo.symm).1
    exact obj_none (by omega) h hq
  | cons v l ih =>
    intro ks had hk f q j k hkl hkh hri hva hv hl hf h hpo hq
    simp only [List.length_cons] at hl hf hkl
    by_cases hj : j = []
    · subst hj; exact obj_none (by omega) h hq
    cases ks with
    | nil => simp at hkl
    | cons k0 ks =>
    simp only [List.length_cons] at hkl
    obtain ⟨f, rfl⟩ : ∃ g, f = g + 1 := ⟨f - 1, by omega⟩
    rw [prO] at hpo
    simp only [List.append_assoc] at hpo
    obtain ⟨c, rr, hpr, hc1, hc2, hc3, hc4⟩ := pr_head v
    rcases comma_pre hpo hj with ⟨hb, rfl⟩ | ⟨i, hi, rfl, hx⟩
    · rw [objFrom]
      exact (more_comma h (by decide) (of_decide_eq_true hb)).bind _
    · obtain ⟨i2, rfl⟩ : ∃ i2, i = 34 :: i2 := by
        rw [qText, List.cons_append] at hx
        exact pre_head hx hi
      have hm := more_sx (t := t) (q := q) (e := 125) (c := 34) (n := had.length) (b := decide (0 < had.length)) (r := i2) rfl h (by decide) (by decide) (by decide) (by omega)
      have h2 := sx_app h
      have hq2 := sx_le h hq
      rw [objFrom, hm]
      simp only [R.bind]
      rw [if_neg (by simp)]
      have hlt : ∀ x ∈ hk, Op.bytesLess x.data.toList k0.data.toList = true := fun x hx => (List.pairwise_append.1 hri).2.2 x hx k0 (by simp)
      have vr := hv v (by simp)
      rw [← List.append_assoc (qText k0)] at hx
      have hcase : (∃ e, e ≠ [] ∧ qText k0 ++ [58] = (34 :: i2) ++ e) ∨ ∃ e, 34 :: i2 = (qText k0 ++ [58]) ++ e ∧ pr v ++ prO true ks l = e ++ k := by
        rcases app_two hx with ⟨e, he, hb⟩ | ⟨e, -, he, hb⟩
        · by_cases hen : e = []
          · subst hen
            exact .inr ⟨[], by rw [he]; simp, by simpa using hb.symm⟩
          · exact .inl ⟨e, hen, he⟩
        · exact .inr ⟨e, he, hb⟩
      rcases hcase with ⟨e, hen, he⟩ | ⟨e, he, hb⟩
      · obtain ⟨p', hp', hbad⟩ := key_cut (hva k0 (by simp)) hlt h2 he hen hq2
        rw [hbad]
        exact ⟨p', hp', rfl⟩
      · rw [he] at h2
        have hea : ∀ x, e.head? = some x → isBlank x = false := fun x hx => by
          cases e with
          | nil => simp at hx
          | cons y e =>
            rw [hpr, List.cons_append] at hb
            simp only [List.cons_append, List.cons.injEq] at hb
            simp only [List.head?_cons, Option.some.injEq] at hx
            rw [← hx, ← hb.1]
            exact hc1
        have hkey := key_at (ks := hk) (r := e) (hva k0 (by simp)) hlt (by rw [h2]; simp) hea
        have h3 := sx_app h2
        have hq3 := sx_le h2 hq2
        rw [hkey]
        simp only
        have eL : (qText k0 ++ [58]).length = (qText k0).length + 1 := by simp
        rw [eL, ← Nat.add_assoc] at h3 hq3
        have hcase2 : (∃ e2, e2 ≠ [] ∧ pr v = e ++ e2) ∨ ∃ e2, e = pr v ++ e2 ∧ prO true ks l = e2 ++ k := by
          rcases app_two hb with ⟨e2, he2, hb2⟩ | ⟨e2, -, he2, hb2⟩
          · by_cases hen : e2 = []
            · subst hen
              exact .inr ⟨[], by rw [he2]; simp, by simpa using hb2.symm⟩
            · exact .inl ⟨e2, hen, he2⟩
          · exact .inr ⟨e2, he2, hb2⟩
        rcases hcase2 with ⟨e2, hen, he2⟩ | ⟨e2, he2, hb2⟩
        · rcases vr.cut _ _ e2 h3 he2 hen hq3 with ⟨p', hp', hbad⟩ | ⟨v', hok⟩
          · rw [hbad]; exact ⟨p', hp', rfl⟩
          · rw [hok]
            exact obj_none (by omega) (drop_size t) (Nat.le_refl _)
        · rw [he2] at h3
          rw [vr.ok _ e2 h3 (stp_preO hb2)]
          simp only
          have hd2 : decide (0 < (had ++ [v]).length) = true := decide_eq_true (by simp)
          rw [place_end hlt, insert_end, hkh, insert_end]
          exact ih ks (had ++ [v]) (hk ++ [k0]) f _ e2 k (by omega) (by simp [hkh]) (by simpa using hri) (fun x hx => hva x (by simp [hx])) (fun x hx => hv x (by simp [hx])) (by simp; omega) (by omega) (sx_app h3) (by rw [hd2]; exact hb2) (sx_le h3 hq3)
/-- A list that is cut off is none, at all events. -/
theorem value_lcut {t : ByteArray} {d : Nat} {l : List V} (hl : l.length ≤ 64) (hv : ∀ v ∈ l, Vr t (value t d) v) {p : Nat} {j k : List UInt8} (h : t.data.toList.drop p = j) (hk : pr (.list l) = j ++ k) (hn : k ≠ []) (hp : p ≤ t.size) : Cb (value t (d + 1) p) t.size := by
  by_cases hj : j = []
  · subst hj
    rw [value]
    exact (cb_next h hp).bind _
  · rw [pr] at hk
    obtain ⟨i, rfl⟩ := pre_head hk hj
    simp only [List.cons_append, List.cons.injEq, true_and] at hk
    obtain ⟨a, -, h2⟩ := sx_next h
    rw [value, next_sx h]
    simp only [R.bind]
    rw [if_neg (by decide), if_neg (by decide), if_neg (by decide), if_pos trivial]
    have hk2 : ∃ k2, prL false l = i ++ k2 := by
      rcases app_two hk with ⟨e, he, -⟩ | ⟨e, he, -, hb⟩
      · exact ⟨e, he⟩
      · exfalso
        have h1 : 0 < e.length := List.length_pos_iff.2 he
        have h2 : 0 < k.length := List.length_pos_iff.2 hn
        have := congrArg List.length hb
        simp at this
        omega
    obtain ⟨k2, hk2⟩ := hk2
    exact list_cut l [] 66 (p + 1) i k2 hv (by simpa using hl) (by omega) h2 (by simpa using hk2) (by omega)
theorem value_ocut {t : ByteArray} {d : Nat} {ks : List ByteArray} {l : List V} (hkl : ks.length = l.length) (hl : l.length ≤ 64) (hr : Rising ks) (hva : ∀ k ∈ ks, validD k.data.toList = true) (hv : ∀ v ∈ l, Vr t (value t d) v) {p : Nat} {j k : List UInt8} (h : t.data.toList.drop p = j) (hk : pr (.obj ks l) = j ++ k) (hn : k ≠ []) (hp : p ≤ t.size) : Cb (value t (d + 1) p) t.size := by
  by_cases hj : j = []
  · subst hj
    rw [value]
    exact (cb_next h hp).bind _
  · rw [pr] at hk
    obtain ⟨i, rfl⟩ := pre_head hk hj
    simp only [List.cons_append, List.cons.injEq, true_and] at hk
    obtain ⟨a, -, h2⟩ := sx_next h
    rw [value, next_sx h]
    simp only [R.bind]
    rw [if_neg (by decide), if_neg (by decide), if_neg (by decide), if_neg (by decide), if_pos trivial]
    have hk2 : ∃ k2, prO false ks l = i ++ k2 := by
      rcases app_two hk with ⟨e, he, -⟩ | ⟨e, he, -, hb⟩
      · exact ⟨e, he⟩
      · exfalso
        have h1 : 0 < e.length := List.length_pos_iff.2 he
        have h2 : 0 < k.length := List.length_pos_iff.2 hn
        have := congrArg List.length hb
        simp at this
        omega
    obtain ⟨k2, hk2⟩ := hk2
    exact obj_cut l ks [] [] 66 (p + 1) i k2 hkl rfl (by simpa using hr) hva hv (by simpa using hl) (by omega) h2 (by simpa using hk2) (by omega)
theorem Cb.ct {r : R (V × Nat)} {n : Nat} (h : Cb r n) : Ct r n := .inl h
theorem value_scut {t : ByteArray} {d : Nat} {v : V} (hv : Sc v) {p : Nat} {j k : List UInt8} (h : t.data.toList.drop p = j) (hk : pr v = j ++ k) (hn : k ≠ []) (hp : p ≤ t.size) : Ct (value t d p) t.size := by
  by_cases hj : j = []
  · subst hj
    cases d <;> (rw [value]; exact ((cb_next h hp).bind _).ct)
  have words : ∀ a b c e : UInt8, pr v = [a, b, c, e] → (∀ x ∈ [a, b, c, e], isLetter x = true) → Ct (value t d p) t.size := by
    intro a b c e hp4 hl
    rw [hp4] at hk
    match j, hj with
    | [x], _ =>
      simp at hk
      obtain ⟨rfl, -⟩ := hk
      exact value_word h (fun y hy => hl y (by simp at hy; simp [hy])) (by simp) (by simp) (by simp) hp
    | [x, y], _ =>
      simp at hk
      obtain ⟨rfl, rfl, -⟩ := hk
      exact value_word h (fun z hz => hl z (by simp at hz; rcases hz with rfl | rfl <;> simp)) (by simp) (by simp) (by simp) hp
    | [x, y, z], _ =>
      simp at hk
      obtain ⟨rfl, rfl, rfl, -⟩ := hk
      exact value_word h (fun u hu => hl u (by simp at hu; rcases hu with rfl | rfl | rfl <;> simp)) (by simp) (by simp) (by simp) hp
    | x :: y :: z :: u :: r, _ =>
      simp only [List.cons_append, List.cons.injEq] at hk
      exact absurd (List.append_eq_nil_iff.1 hk.2.2.2.2.symm).2 hn
  cases v with
  | null => exact words _ _ _ _ rfl (by decide)
  | bool b =>
    cases b with
    | true => exact words _ _ _ _ rfl (by decide)
    | false =>
      rw [pr] at hk
      match j, hj with
      | [x], _ =>
        simp at hk
        obtain ⟨rfl, -⟩ := hk
        exact value_word h (by decide) (by simp) (by simp) (by simp) hp
      | [x, y], _ =>
        simp at hk
        obtain ⟨rfl, rfl, -⟩ := hk
        exact value_word h (by decide) (by simp) (by simp) (by simp) hp
      | [x, y, z], _ =>
        simp at hk
        obtain ⟨rfl, rfl, rfl, -⟩ := hk
        exact value_word h (by decide) (by simp) (by simp) (by simp) hp
      | [x, y, z, u], _ =>
        simp at hk
        obtain ⟨rfl, rfl, rfl, rfl, -⟩ := hk
        exact value_word h (by decide) (by simp) (by simp) (by simp) hp
      | x :: y :: z :: u :: w :: r, _ =>
        simp only [List.cons_append, List.cons.injEq] at hk
        exact absurd (List.append_eq_nil_iff.1 hk.2.2.2.2.2.symm).2 hn
  | int n =>
    rw [pr] at hk
    exact value_num h hj hk hv.1 hv.2 hp
  | text s =>
    rw [pr] at hk
    obtain ⟨i, rfl⟩ : ∃ i, j = 34 :: i := by
      rw [qText] at hk
      exact pre_head hk hj
    have hq := quoted_cut hv h hk hn hp
    obtain ⟨p', hp', hbad⟩ := hq
    refine .inl ⟨p', hp', ?_⟩
    cases d <;> (rw [value, next_sx h]; simp only [R.bind]; rw [if_neg (by decide), if_neg (by decide), if_pos trivial, hbad])
  | list l => exact hv.elim
  | obj ks l => exact hv.elim
/-- A value that is cut off. -/
theorem value_cut (t : ByteArray) : ∀ (d : Nat) (v : V), Gd d v → ∀ p j k, t.data.toList.drop p = j → pr v = j ++ k → k ≠ [] → p ≤ t.size → Ct (value t d p) t.size := by
  intro d
  induction d with
  | zero =>
    intro v hg p j k h hk hn hp
    cases v with
    | null => exact value_scut (v := .null) trivial h hk hn hp
    | bool b => exact value_scut (v := .bool b) trivial h hk hn hp
    | int n => exact value_scut (v := .int n) (by simpa [Gd, Sc] using hg) h hk hn hp
    | text s => exact value_scut (v := .text s) (by simpa [Gd, Sc] using hg) h hk hn hp
    | list l => simp [Gd] at hg
    | obj ks l => simp [Gd] at hg
  | succ d ih =>
    intro v hg p j k h hk hn hp
    cases v with
    | null => exact value_scut (v := .null) trivial h hk hn hp
    | bool b => exact value_scut (v := .bool b) trivial h hk hn hp
    | int n => exact value_scut (v := .int n) (by simpa [Gd, Sc] using hg) h hk hn hp
    | text s => exact value_scut (v := .text s) (by simpa [Gd, Sc] using hg) h hk hn hp
    | list l =>
      rw [Gd] at hg
      exact (value_lcut hg.1 (fun v hv => ⟨value_sx t d v (hg.2 v hv), ih v (hg.2 v hv)⟩) h hk hn hp).ct
    | obj ks l =>
      rw [Gd] at hg
      exact (value_ocut hg.1 hg.2.1 hg.2.2.1 hg.2.2.2.1 (fun v hv => ⟨value_sx t d v (hg.2.2.2.2 v hv), ih v (hg.2.2.2.2 v hv)⟩) h hk hn hp).ct
/-- A list's text that is cut off is no value's. -/
theorem parse_cut {l : List V} (hg : Gd 10 (.list l)) {j k : List UInt8} (hk : pr (.list l) = j ++ k) (hn : k ≠ []) (hl : j.length ≤ 4096) : ∃ p, p ≤ j.length ∧ parse ⟨j.toArray⟩ = .bad p eSyntax := by
  have hz : (⟨j.toArray⟩ : ByteArray).size = j.length := by simp [ByteArray.size]
  have h : (⟨j.toArray⟩ : ByteArray).data.toList.drop 0 = j := by simp
  rw [Gd] at hg
  have hb : blanks ⟨j.toArray⟩ 0 = 0 := by
    by_cases hj : j = []
    · exact blank_end (by rw [h]; exact hj)
    · rw [pr] at hk
      obtain ⟨i, hi⟩ := pre_head hk hj
      exact blank_sx (c := 91) (r := i) (by rw [h]; exact hi) (by decide)
  obtain ⟨p, hp, hbad⟩ := value_lcut hg.1 (fun v hv => ⟨value_sx _ 9 v (hg.2 v hv), value_cut _ 9 v (hg.2 v hv)⟩) h hk hn (Nat.zero_le _)
  refine ⟨p, by rw [← hz]; exact hp, ?_⟩
  unfold parse wholeText
  rw [if_neg (by rw [hz]; omega), hb, hbad]
  rfl
/-- One bracket more. -/
theorem parse_more {v : V} (hg : Gd 10 v) (hl : (pr v).length < 4096) : parse ⟨(pr v ++ [93]).toArray⟩ = .bad (pr v).length eSyntax := by
  have hz : (⟨(pr v ++ [93]).toArray⟩ : ByteArray).size = (pr v).length + 1 := by simp [ByteArray.size]
  have h : (⟨(pr v ++ [93]).toArray⟩ : ByteArray).data.toList.drop 0 = pr v ++ [93] := by simp
  obtain ⟨c, r, hc, hb, -⟩ := pr_head v
  have hq : blanks ⟨(pr v ++ [93]).toArray⟩ 0 = 0 := blank_sx (c := c) (r := r ++ [93]) (by rw [h, hc]; rfl) hb
  have hv := value_sx _ 10 v hg 0 [93] h (stp_cons (by decide) (by decide))
  have h3 := sx_app h
  unfold parse wholeText
  rw [if_neg (by rw [hz]; omega), hq, hv]
  simp only [R.bind]
  rw [blank_sx h3 (by decide), hz, if_pos (by omega)]
  simp
/-- Deeper is no harm; and what has a text with blanks may be read. -/
theorem Wd.rise {d : Nat} {v : V} {i : List UInt8} (h : Wd d v i) : Wd (d + 1) v i :=
  Wd.rec (motive_1 := fun d v i _ => Wd (d + 1) v i) (motive_2 := fun d had l x _ => Wl (d + 1) had l x) (motive_3 := fun d had ks l x _ => Wo (d + 1) had ks l x)
    (fun _d v h => .sc _ v h) (fun _d l x _ hl ih => .list _ l x ih hl) (fun _d ks l x _ hk hl hr hv ih => .obj _ ks l x ih hk hl hr hv)
    (fun _d had b h => .nil _ had b h) (fun _d had v l s i x hs _ _ ih1 ih2 => .cons _ had v l s i x hs ih1 ih2)
    (fun _d had b h => .nil _ had b h) (fun _d had k ks v l s b c i x hs hb hc _ _ ih1 ih2 => .cons _ had k ks v l s b c i x hs hb hc ih1 ih2) h
theorem TW.rise {d : Nat} {v : V} {l : List ByteArray} (h : TW d v l) : TW (d + 1) v l :=
  ⟨h.fl, fun bs hb n => by obtain ⟨i, hi, hw⟩ := h.wd bs hb n; exact ⟨i, hi, hw.rise⟩⟩
theorem sc_gd {d : Nat} {v : V} (h : Sc v) : Gd d v := by
  cases v <;> cases d <;> simp_all [Sc, Gd]
theorem Wd.gd {d : Nat} {v : V} {i : List UInt8} (h : Wd d v i) : Gd d v :=
  Wd.rec (motive_1 := fun d v _ _ => Gd d v) (motive_2 := fun d _ l _ _ => ∀ v ∈ l, Gd d v) (motive_3 := fun d _ _ l _ _ => ∀ v ∈ l, Gd d v)
    (fun _ _ h => sc_gd h) (fun _ _ _ _ hl ih => by rw [Gd]; exact ⟨hl, ih⟩) (fun _ _ _ _ _ hk hl hr hv ih => by rw [Gd]; exact ⟨hk, hl, hr, hv, ih⟩)
    (fun _ _ _ _ v hv => by simp at hv) (fun _ _ _ _ _ _ _ _ _ _ ih1 ih2 v hv => by rcases List.mem_cons.1 hv with rfl | hv; exact ih1; exact ih2 v hv)
    (fun _ _ _ _ v hv => by simp at hv) (fun _ _ _ _ _ _ _ _ _ _ _ _ _ _ _ _ ih1 ih2 v hv => by rcases List.mem_cons.1 hv with rfl | hv; exact ih1; exact ih2 v hv) h
theorem TW.gd {d : Nat} {v : V} {l : List ByteArray} (h : TW d v l) : Gd d v := by
  obtain ⟨i, -, hw⟩ := h.wd (fun _ => []) (fun _ c hc => by simp at hc) 0
  exact hw.gd
end Go.Jv
