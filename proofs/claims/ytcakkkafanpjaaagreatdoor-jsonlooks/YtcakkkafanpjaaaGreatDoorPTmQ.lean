/-
  Laid together by packg.py of TmQ.
-/
import Derived.Test.YtcakkkafanpjaaaGreatDoorQaA
namespace Go.Jv
/-- The document's 'hex', from a place on: the number so far n; are there other bytes (below nought); do the bytes end? -/
def hexF (t : ByteArray) : Nat → Nat → Nat → Int × Bool
  | 0, _, n => ((n : Int), false)
  | k + 1, p, n =>
    if t.size ≤ p then (0, true)
    else match hexOf (t.get! p) with
      | some d => hexF t k (p + 1) (16 * n + d)
      | none => (-1, false)
theorem hexF_unit (t : ByteArray) (fr : Nat) : ∀ (k p n : Nat), k ≤ 4 → p ≤ t.size →
    ((hexF t k p n).2 = true ∧ unitFrom t fr k p n = .bad t.size eSyntax) ∨
    ((hexF t k p n).2 = false ∧ (hexF t k p n).1 = -1 ∧ unitFrom t fr k p n = .bad fr eSyntax) ∨
    (∃ m : Nat, (hexF t k p n).2 = false ∧ (hexF t k p n).1 = m ∧ unitFrom t fr k p n = .ok m ∧ p + k ≤ t.size)
  | 0, p, n, _, hp => .inr (.inr ⟨n, rfl, rfl, rfl, by omega⟩)
  | k + 1, p, n, hk, hp => by
    by_cases h : t.size ≤ p
    · have e : hexF t (k + 1) p n = (0, true) := if_pos h
      left
      refine ⟨by rw [e], ?_⟩
      unfold unitFrom
      rw [if_neg (by omega)]
      have : p = t.size := by omega
      rw [this]
    · unfold unitFrom
      rw [if_pos (by omega), if_neg (by omega), if_neg (by omega)]
      cases hx : hexOf (t.get! p) with
      | none =>
        have e : hexF t (k + 1) p n = (-1, false) := by
          show (if _ then _ else _) = _
          rw [if_neg h, hx]
        right; left
        rw [e]
        exact ⟨rfl, rfl, rfl⟩
      | some d =>
        have e : hexF t (k + 1) p n = hexF t k (p + 1) (16 * n + d) := by
          show (if _ then _ else _) = _
          rw [if_neg h, hx]
        rw [e]
        rcases hexF_unit t fr k (p + 1) (16 * n + d) (by omega) (by omega) with h1 | h1 | ⟨m, h1, h2, h3, h4⟩
        · exact .inl h1
        · exact .inr (.inl h1)
        · exact .inr (.inr ⟨m, h1, h2, h3, by omega⟩)
/-- The document's 'point', behind its number: the number of the escape, its length (nought: it is none), does the end cut it off? -/
def pointF (t : ByteArray) (p : Nat) : Int × Nat × Bool :=
  if (hexF t 4 (p + 2) 0).2 = true ∨ (hexF t 4 (p + 2) 0).1 < 0 ∨ (56320 ≤ (hexF t 4 (p + 2) 0).1 ∧ (hexF t 4 (p + 2) 0).1 < 57344) then (0, 0, (hexF t 4 (p + 2) 0).2)
  else if (hexF t 4 (p + 2) 0).1 < 55296 ∨ 57343 < (hexF t 4 (p + 2) 0).1 then ((hexF t 4 (p + 2) 0).1, 6, false)
  else if t.size ≤ p + 6 then (0, 0, true)
  else if t.get! (p + 6) ≠ 92 then (0, 0, false)
  else if t.size ≤ p + 7 then (0, 0, true)
  else if t.get! (p + 7) ≠ 117 then (0, 0, false)
  else if (hexF t 4 (p + 8) 0).2 = true ∨ (hexF t 4 (p + 8) 0).1 < 56320 ∨ 57343 < (hexF t 4 (p + 8) 0).1 then (0, 0, (hexF t 4 (p + 8) 0).2)
  else (65536 + 1024 * ((hexF t 4 (p + 2) 0).1 - 55296) + (hexF t 4 (p + 8) 0).1 - 56320, 12, false)
theorem us_end (t : ByteArray) (fr k p n : Nat) (h : ¬ p < t.size) : unitFrom t fr (k + 1) p n = .bad p eSyntax := by
  rw [unitFrom, if_neg h]
theorem us_step0 (t : ByteArray) (fr p n : Nat) (h : p < t.size) (hc : t.get! p = 92) : unitFrom t fr 6 p n = unitFrom t fr 5 (p + 1) n := by
  rw [unitFrom, if_pos h, if_pos rfl, if_pos hc]
theorem us_bad0 (t : ByteArray) (fr p n : Nat) (h : p < t.size) (hc : ¬ t.get! p = 92) : unitFrom t fr 6 p n = .bad fr eSyntax := by
  rw [unitFrom, if_pos h, if_pos rfl, if_neg hc]
theorem us_step1 (t : ByteArray) (fr p n : Nat) (h : p < t.size) (hc : t.get! p = 117) : unitFrom t fr 5 p n = unitFrom t fr 4 (p + 1) n := by
  rw [unitFrom, if_pos h, if_neg (by decide), if_pos rfl, if_pos hc]
theorem us_bad1 (t : ByteArray) (fr p n : Nat) (h : p < t.size) (hc : ¬ t.get! p = 117) : unitFrom t fr 5 p n = .bad fr eSyntax := by
  rw [unitFrom, if_pos h, if_neg (by decide), if_pos rfl, if_neg hc]
theorem unit_hex (t : ByteArray) (fr p : Nat) (h0 : p < t.size) (h1 : t.get! p = 92) (h2 : p + 1 < t.size) (h3 : t.get! (p + 1) = 117) : unit t fr p = unitFrom t fr 4 (p + 2) 0 := by
  unfold unit
  rw [us_step0 t fr p 0 h0 h1, us_step1 t fr (p + 1) 0 h2 h3]
theorem Rb_ok {α β : Type} (a : α) (g : α → R β) : (R.ok a).bind g = g a := rfl
theorem escape_point (t : ByteArray) (p : Nat) (h0 : p < t.size) (h1 : t.get! p = 92) (h2 : p + 1 < t.size) (h3 : t.get! (p + 1) = 117) :
    ((pointF t p).2.2 = true ∧ escape t p = .bad t.size eSyntax) ∨
    ((pointF t p).2.2 = false ∧ (pointF t p).2.1 = 0 ∧ escape t p = .bad p eSyntax) ∨
    (∃ m : Nat, (pointF t p).2.2 = false ∧ 0 < (pointF t p).2.1 ∧ (pointF t p).1 = m ∧ escape t p = .ok (m, p + (pointF t p).2.1) ∧ p + (pointF t p).2.1 ≤ t.size ∧ (m < 55296 ∨ 57343 < m)) := by
  have hn : next t (p + 1) = .ok (t.get! (p + 1)) := by unfold next; rw [if_pos h2]
  have he : escape t p = (unit t p p).bind fun high => if high < 55296 ∨ 57343 < high then .ok (high, p + 6) else if 56320 ≤ high then .bad p eSyntax
      else (unit t p (p + 6)).bind fun low => if low < 56320 ∨ 57343 < low then .bad p eSyntax else .ok (65536 + (high - 55296) * 1024 + (low - 56320), p + 12) := by
    unfold escape
    rw [hn, h3]
    rfl
  rw [he, unit_hex t p p h0 h1 h2 h3]
  rcases hexF_unit t p 4 (p + 2) 0 (Nat.le_refl _) (by omega) with ⟨a1, a2⟩ | ⟨a1, a2, a3⟩ | ⟨m, a1, a2, a3, a4⟩
  · have e : pointF t p = (0, 0, true) := by unfold pointF; rw [if_pos (.inl a1), a1]
    rw [e, a2]
    exact .inl ⟨rfl, rfl⟩
  · have e : pointF t p = (0, 0, false) := by unfold pointF; rw [if_pos (.inr (.inl (by omega))), a1]
    rw [e, a3]
    exact .inr (.inl ⟨rfl, rfl, rfl⟩)
  · rw [a3]
    rw [Rb_ok]
    by_cases c1 : 56320 ≤ m ∧ m < 57344
    · have e : pointF t p = (0, 0, false) := by unfold pointF; rw [if_pos (.inr (.inr ⟨by omega, by omega⟩)), a1]
      rw [e, if_neg (by omega), if_pos (by omega)]
      exact .inr (.inl ⟨rfl, rfl, rfl⟩)
    · have n1 : ¬ ((hexF t 4 (p + 2) 0).2 = true ∨ (hexF t 4 (p + 2) 0).1 < 0 ∨ (56320 ≤ (hexF t 4 (p + 2) 0).1 ∧ (hexF t 4 (p + 2) 0).1 < 57344)) := by
        rw [a1, a2]
        rintro (e | e | e)
        · cases e
        · omega
        · omega
      by_cases c2 : m < 55296 ∨ 57343 < m
      · have e : pointF t p = ((m : Int), 6, false) := by unfold pointF; rw [if_neg n1, if_pos (by omega), a2]
        rw [e, if_pos c2]
        exact .inr (.inr ⟨m, rfl, by show 0 < 6; decide, rfl, rfl, by show p + 6 ≤ _; omega, c2⟩)
      · have n2 : ¬ ((hexF t 4 (p + 2) 0).1 < 55296 ∨ 57343 < (hexF t 4 (p + 2) 0).1) := by omega
        rw [if_neg c2, if_neg (by omega)]
        by_cases c3 : t.size ≤ p + 6
        · have e : pointF t p = (0, 0, true) := by unfold pointF; rw [if_neg n1, if_neg n2, if_pos c3]
          have : unit t p (p + 6) = .bad t.size eSyntax := by
            unfold unit
            rw [us_end t p 5 (p + 6) 0 (by omega)]
            have : p + 6 = t.size := by omega
            rw [this]
          rw [e, this]
          exact .inl ⟨rfl, rfl⟩
        · by_cases c4 : t.get! (p + 6) = 92
          · by_cases c5 : t.size ≤ p + 7
            · have e : pointF t p = (0, 0, true) := by unfold pointF; rw [if_neg n1, if_neg n2, if_neg c3, if_neg (by simpa using c4), if_pos c5]
              have : unit t p (p + 6) = .bad t.size eSyntax := by
                unfold unit
                rw [us_step0 t p (p + 6) 0 (by omega) c4, us_end t p 4 (p + 6 + 1) 0 (by omega)]
                have : p + 6 + 1 = t.size := by omega
                rw [this]
              rw [e, this]
              exact .inl ⟨rfl, rfl⟩
            · by_cases c6 : t.get! (p + 7) = 117
              · rw [unit_hex t p (p + 6) (by omega) c4 (by omega) c6]
                have hf : pointF t p = if (hexF t 4 (p + 8) 0).2 = true ∨ (hexF t 4 (p + 8) 0).1 < 56320 ∨ 57343 < (hexF t 4 (p + 8) 0).1 then (0, 0, (hexF t 4 (p + 8) 0).2)
                    else (65536 + 1024 * ((hexF t 4 (p + 2) 0).1 - 55296) + (hexF t 4 (p + 8) 0).1 - 56320, 12, false) := by
                  unfold pointF; rw [if_neg n1, if_neg n2, if_neg c3, if_neg (by simpa using c4), if_neg c5, if_neg (by simpa using c6)]
                rcases hexF_unit t p 4 (p + 8) 0 (Nat.le_refl _) (by omega) with ⟨b1, b2⟩ | ⟨b1, b2, b3⟩ | ⟨m2, b1, b2, b3, b4⟩
                · rw [hf, if_pos (.inl b1), b1, show p + 6 + 2 = p + 8 from rfl, b2]
                  exact .inl ⟨rfl, rfl⟩
                · rw [hf, if_pos (.inr (.inl (by omega))), b1, show p + 6 + 2 = p + 8 from rfl, b3]
                  exact .inr (.inl ⟨rfl, rfl, rfl⟩)
                · rw [show p + 6 + 2 = p + 8 from rfl, b3]
                  rw [Rb_ok]
                  by_cases c7 : m2 < 56320 ∨ 57343 < m2
                  · rw [hf, if_pos (.inr (by omega)), if_pos c7, b1]
                    exact .inr (.inl ⟨rfl, rfl, rfl⟩)
                  · have n3 : ¬ ((hexF t 4 (p + 8) 0).2 = true ∨ (hexF t 4 (p + 8) 0).1 < 56320 ∨ 57343 < (hexF t 4 (p + 8) 0).1) := by
                      rw [b1, b2]
                      rintro (e | e)
                      · cases e
                      · omega
                    rw [hf, if_neg n3, if_neg c7]
                    exact .inr (.inr ⟨_, rfl, by show 0 < 12; decide, by show 65536 + 1024 * ((hexF t 4 (p + 2) 0).1 - 55296) + (hexF t 4 (p + 8) 0).1 - 56320 = _; rw [a2, b2]; omega, rfl, by show p + 12 ≤ _; omega, by omega⟩)
              · have e : pointF t p = (0, 0, false) := by unfold pointF; rw [if_neg n1, if_neg n2, if_neg c3, if_neg (by simpa using c4), if_neg c5, if_pos c6]
                have : unit t p (p + 6) = .bad p eSyntax := by
                  unfold unit
                  rw [us_step0 t p (p + 6) 0 (by omega) c4, us_bad1 t p (p + 6 + 1) 0 (by omega) c6]
                rw [e, this]
                exact .inr (.inl ⟨rfl, rfl, rfl⟩)
          · have e : pointF t p = (0, 0, false) := by unfold pointF; rw [if_neg n1, if_neg n2, if_neg c3, if_pos c4]
            have : unit t p (p + 6) = .bad p eSyntax := by
              unfold unit
              rw [us_bad0 t p (p + 6) 0 (by omega) c4]
            rw [e, this]
            exact .inr (.inl ⟨rfl, rfl, rfl⟩)
theorem escape_end (t : ByteArray) (p : Nat) (h : p < t.size) (h2 : t.size ≤ p + 1) : escape t p = .bad t.size eSyntax := by
  unfold escape next
  rw [if_neg (by omega)]
  have : p + 1 = t.size := by omega
  rw [this]; rfl
theorem escape_one (t : ByteArray) (p : Nat) (h2 : p + 1 < t.size) (x : UInt8) (hx : escOf (t.get! (p + 1)) = some x) : escape t p = .ok (x.toNat, p + 2) := by
  unfold escape next
  rw [if_pos h2]
  show (match escOf (t.get! (p + 1)) with | some x => _ | none => _) = _
  rw [hx]
theorem escape_none (t : ByteArray) (p : Nat) (h0 : p < t.size) (h1 : t.get! p = 92) (h2 : p + 1 < t.size) (h3 : t.get! (p + 1) ≠ 117) (hx : escOf (t.get! (p + 1)) = none) : escape t p = .bad p eSyntax := by
  unfold escape next
  rw [if_pos h2]
  show (match escOf (t.get! (p + 1)) with | some x => _ | none => _) = _
  rw [hx]
  have : unit t p p = .bad p eSyntax := by
    unfold unit
    rw [us_step0 t p p 0 h0 h1, us_bad1 t p (p + 1) 0 h2 h3]
  rw [this]; rfl
end Go.Jv
