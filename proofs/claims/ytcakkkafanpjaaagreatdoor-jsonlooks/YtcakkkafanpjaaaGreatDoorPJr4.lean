/-
  Laid together by packg.py of Jr4.
-/
import Derived.Test.YtcakkkafanpjaaaGreatDoorQaB
namespace Go.Proofs
open Go.RowKit Go.Jv
set_option maxHeartbeats 4000000 in
set_option maxRecDepth 100000 in
theorem Tryz.fullRune_any (s : ByteArray) (w : World) (h0 : 0 < s.size) (hs : s.size ≤ 4096) (hT : Lib.Utf8Tabs 0 1 w) :
    Calls Tryz.prog 158 #[.string s] w fun en w' => en = .returned (.bool (fullN s.size (s.get! 0).toNat (s.get! 1).toNat (s.get! 2).toNat)) ∧ Below w.heap.size w w' := by
  have hs0 : s[0]'h0 = s.get! 0 := Jv.get_eq s 0 h0
  have l0 := (s.get! 0).toNat_lt
  have hc0 := hT.1 (s.get! 0).toNat l0
  have hA := hT.2
  unfold fullN
  clear hT
  rcases Lib.firstT_cases (s.get! 0).toNat with hX | hX | hX | hX | hX | hX | hX | hX | hX
  · rw [hX] at hc0 ⊢
    rw [if_pos (by omega)]
    clear hA hX
    generalize s.get! 0 = x0 at hs0 hc0 l0
    go_enter Tryz.func158, Tryz.ntmps158
    go_wp2
    go_ret
    exact ⟨rfl, Below.refl _ _⟩
  · rw [hX] at hc0 ⊢
    rw [if_pos (by omega)]
    clear hA hX
    generalize s.get! 0 = x0 at hs0 hc0 l0
    go_enter Tryz.func158, Tryz.ntmps158
    go_wp2
    go_ret
    exact ⟨rfl, Below.refl _ _⟩
  · rw [hX] at hc0 ⊢
    have ha := hA 0 (by omega)
    have hlo : Lib.accLo 0 = 128 := by decide
    have hhi : Lib.accHi 0 = 191 := by decide
    rw [show 2 / 16 = 0 from rfl, hlo, hhi]
    rw [hlo, hhi] at ha
    obtain ⟨ha1, ha2⟩ := ha
    clear hA hX hlo hhi
    generalize s.get! 0 = x0 at hs0 hc0 l0
    by_cases hn : 2 ≤ s.size
    · rw [if_pos (by omega)]
      go_enter Tryz.func158, Tryz.ntmps158
      go_wp2
      go_ret
      exact ⟨rfl, Below.refl _ _⟩
    · rw [if_neg (by omega)]
      by_cases h1 : 1 < s.size
      · have hs1 : s[1]'h1 = s.get! 1 := Jv.get_eq s 1 h1
        exfalso; omega
      · rw [if_neg (by omega), if_neg (by omega)]
        first | have g1 : decide (1 < (s.size : Int)) = true := decide_eq_true (by omega) | have g1 : decide (1 < (s.size : Int)) = false := decide_eq_false (by omega) | skip
        first | have g2 : decide (2 < (s.size : Int)) = true := decide_eq_true (by omega) | have g2 : decide (2 < (s.size : Int)) = false := decide_eq_false (by omega) | skip
        first | have g3 : decide ((x1.toNat : Int) < 128) = true := decide_eq_true (by omega) | have g3 : decide ((x1.toNat : Int) < 128) = false := decide_eq_false (by omega) | skip
        first | have g4 : decide (191 < (x1.toNat : Int)) = true := decide_eq_true (by omega) | have g4 : decide (191 < (x1.toNat : Int)) = false := decide_eq_false (by omega) | skip
        first | have g5 : decide ((x2.toNat : Int) < 128) = true := decide_eq_true (by omega) | have g5 : decide ((x2.toNat : Int) < 128) = false := decide_eq_false (by omega) | skip
        first | have g6 : decide (191 < (x2.toNat : Int)) = true := decide_eq_true (by omega) | have g6 : decide (191 < (x2.toNat : Int)) = false := decide_eq_false (by omega) | skip
        go_enter Tryz.func158, Tryz.ntmps158
        go_wp2
        go_quiet (fail)
        go_wp2
        go_ret
        exact ⟨rfl, Jv.belowN ((Below.refl _ _).alloc (Nat.le_refl _) _) _⟩
  · rw [hX] at hc0 ⊢
    have ha := hA 1 (by omega)
    have hlo : Lib.accLo 1 = 160 := by decide
    have hhi : Lib.accHi 1 = 191 := by decide
    rw [show 19 / 16 = 1 from rfl, hlo, hhi]
    rw [hlo, hhi] at ha
    obtain ⟨ha1, ha2⟩ := ha
    clear hA hX hlo hhi
    generalize s.get! 0 = x0 at hs0 hc0 l0
    by_cases hn : 3 ≤ s.size
    · rw [if_pos (by omega)]
      go_enter Tryz.func158, Tryz.ntmps158
      go_wp2
      go_ret
      exact ⟨rfl, Below.refl _ _⟩
    · rw [if_neg (by omega)]
      by_cases h1 : 1 < s.size
      · have hs1 : s[1]'h1 = s.get! 1 := Jv.get_eq s 1 h1
        generalize s.get! 1 = x1 at hs1
        by_cases a : x1.toNat < 160
        · rw [if_pos ⟨h1, Or.inl a⟩]
          first | have g1 : decide (1 < (s.size : Int)) = true := decide_eq_true (by omega) | have g1 : decide (1 < (s.size : Int)) = false := decide_eq_false (by omega) | skip
          first | have g2 : decide (2 < (s.size : Int)) = true := decide_eq_true (by omega) | have g2 : decide (2 < (s.size : Int)) = false := decide_eq_false (by omega) | skip
          first | have g3 : decide ((x1.toNat : Int) < 160) = true := decide_eq_true (by omega) | have g3 : decide ((x1.toNat : Int) < 160) = false := decide_eq_false (by omega) | skip
          first | have g4 : decide (191 < (x1.toNat : Int)) = true := decide_eq_true (by omega) | have g4 : decide (191 < (x1.toNat : Int)) = false := decide_eq_false (by omega) | skip
          first | have g5 : decide ((x2.toNat : Int) < 128) = true := decide_eq_true (by omega) | have g5 : decide ((x2.toNat : Int) < 128) = false := decide_eq_false (by omega) | skip
          first | have g6 : decide (191 < (x2.toNat : Int)) = true := decide_eq_true (by omega) | have g6 : decide (191 < (x2.toNat : Int)) = false := decide_eq_false (by omega) | skip
          go_enter Tryz.func158, Tryz.ntmps158
          go_wp2
          go_quiet (fail)
          go_wp2
          go_ret
          exact ⟨rfl, Jv.belowN ((Below.refl _ _).alloc (Nat.le_refl _) _) _⟩
        · by_cases c : 191 < x1.toNat
          · rw [if_pos ⟨h1, Or.inr c⟩]
            first | have g1 : decide (1 < (s.size : Int)) = true := decide_eq_true (by omega) | have g1 : decide (1 < (s.size : Int)) = false := decide_eq_false (by omega) | skip
            first | have g2 : decide (2 < (s.size : Int)) = true := decide_eq_true (by omega) | have g2 : decide (2 < (s.size : Int)) = false := decide_eq_false (by omega) | skip
            first | have g3 : decide ((x1.toNat : Int) < 160) = true := decide_eq_true (by omega) | have g3 : decide ((x1.toNat : Int) < 160) = false := decide_eq_false (by omega) | skip
            first | have g4 : decide (191 < (x1.toNat : Int)) = true := decide_eq_true (by omega) | have g4 : decide (191 < (x1.toNat : Int)) = false := decide_eq_false (by omega) | skip
            first | have g5 : decide ((x2.toNat : Int) < 128) = true := decide_eq_true (by omega) | have g5 : decide ((x2.toNat : Int) < 128) = false := decide_eq_false (by omega) | skip
            first | have g6 : decide (191 < (x2.toNat : Int)) = true := decide_eq_true (by omega) | have g6 : decide (191 < (x2.toNat : Int)) = false := decide_eq_false (by omega) | skip
            go_enter Tryz.func158, Tryz.ntmps158
            go_wp2
            go_quiet (fail)
            go_wp2
            go_ret
            exact ⟨rfl, Jv.belowN ((Below.refl _ _).alloc (Nat.le_refl _) _) _⟩
          · rw [if_neg (by omega)]
            by_cases h2 : 2 < s.size
            · have hs2 : s[2]'h2 = s.get! 2 := Jv.get_eq s 2 h2
              exfalso; omega
            · rw [if_neg (by omega)]
              first | have g1 : decide (1 < (s.size : Int)) = true := decide_eq_true (by omega) | have g1 : decide (1 < (s.size : Int)) = false := decide_eq_false (by omega) | skip
              first | have g2 : decide (2 < (s.size : Int)) = true := decide_eq_true (by omega) | have g2 : decide (2 < (s.size : Int)) = false := decide_eq_false (by omega) | skip
              first | have g3 : decide ((x1.toNat : Int) < 160) = true := decide_eq_true (by omega) | have g3 : decide ((x1.toNat : Int) < 160) = false := decide_eq_false (by omega) | skip
              first | have g4 : decide (191 < (x1.toNat : Int)) = true := decide_eq_true (by omega) | have g4 : decide (191 < (x1.toNat : Int)) = false := decide_eq_false (by omega) | skip
              first | have g5 : decide ((x2.toNat : Int) < 128) = true := decide_eq_true (by omega) | have g5 : decide ((x2.toNat : Int) < 128) = false := decide_eq_false (by omega) | skip
              first | have g6 : decide (191 < (x2.toNat : Int)) = true := decide_eq_true (by omega) | have g6 : decide (191 < (x2.toNat : Int)) = false := decide_eq_false (by omega) | skip
              go_enter Tryz.func158, Tryz.ntmps158
              go_wp2
              go_quiet (fail)
              go_wp2
              go_ret
              exact ⟨rfl, Jv.belowN ((Below.refl _ _).alloc (Nat.le_refl _) _) _⟩
      · rw [if_neg (by omega), if_neg (by omega)]
        first | have g1 : decide (1 < (s.size : Int)) = true := decide_eq_true (by omega) | have g1 : decide (1 < (s.size : Int)) = false := decide_eq_false (by omega) | skip
        first | have g2 : decide (2 < (s.size : Int)) = true := decide_eq_true (by omega) | have g2 : decide (2 < (s.size : Int)) = false := decide_eq_false (by omega) | skip
        first | have g3 : decide ((x1.toNat : Int) < 160) = true := decide_eq_true (by omega) | have g3 : decide ((x1.toNat : Int) < 160) = false := decide_eq_false (by omega) | skip
        first | have g4 : decide (191 < (x1.toNat : Int)) = true := decide_eq_true (by omega) | have g4 : decide (191 < (x1.toNat : Int)) = false := decide_eq_false (by omega) | skip
        first | have g5 : decide ((x2.toNat : Int) < 128) = true := decide_eq_true (by omega) | have g5 : decide ((x2.toNat : Int) < 128) = false := decide_eq_false (by omega) | skip
        first | have g6 : decide (191 < (x2.toNat : Int)) = true := decide_eq_true (by omega) | have g6 : decide (191 < (x2.toNat : Int)) = false := decide_eq_false (by omega) | skip
        go_enter Tryz.func158, Tryz.ntmps158
        go_wp2
        go_quiet (fail)
        go_wp2
        go_ret
        exact ⟨rfl, Jv.belowN ((Below.refl _ _).alloc (Nat.le_refl _) _) _⟩
  · rw [hX] at hc0 ⊢
    have ha := hA 0 (by omega)
    have hlo : Lib.accLo 0 = 128 := by decide
    have hhi : Lib.accHi 0 = 191 := by decide
    rw [show 3 / 16 = 0 from rfl, hlo, hhi]
    rw [hlo, hhi] at ha
    obtain ⟨ha1, ha2⟩ := ha
    clear hA hX hlo hhi
    generalize s.get! 0 = x0 at hs0 hc0 l0
    by_cases hn : 3 ≤ s.size
    · rw [if_pos (by omega)]
      go_enter Tryz.func158, Tryz.ntmps158
      go_wp2
      go_ret
      exact ⟨rfl, Below.refl _ _⟩
    · rw [if_neg (by omega)]
      by_cases h1 : 1 < s.size
      · have hs1 : s[1]'h1 = s.get! 1 := Jv.get_eq s 1 h1
        generalize s.get! 1 = x1 at hs1
        by_cases a : x1.toNat < 128
        · rw [if_pos ⟨h1, Or.inl a⟩]
          first | have g1 : decide (1 < (s.size : Int)) = true := decide_eq_true (by omega) | have g1 : decide (1 < (s.size : Int)) = false := decide_eq_false (by omega) | skip
          first | have g2 : decide (2 < (s.size : Int)) = true := decide_eq_true (by omega) | have g2 : decide (2 < (s.size : Int)) = false := decide_eq_false (by omega) | skip
          first | have g3 : decide ((x1.toNat : Int) < 128) = true := decide_eq_true (by omega) | have g3 : decide ((x1.toNat : Int) < 128) = false := decide_eq_false (by omega) | skip
          first | have g4 : decide (191 < (x1.toNat : Int)) = true := decide_eq_true (by omega) | have g4 : decide (191 < (x1.toNat : Int)) = false := decide_eq_false (by omega) | skip
          first | have g5 : decide ((x2.toNat : Int) < 128) = true := decide_eq_true (by omega) | have g5 : decide ((x2.toNat : Int) < 128) = false := decide_eq_false (by omega) | skip
          first | have g6 : decide (191 < (x2.toNat : Int)) = true := decide_eq_true (by omega) | have g6 : decide (191 < (x2.toNat : Int)) = false := decide_eq_false (by omega) | skip
          go_enter Tryz.func158, Tryz.ntmps158
          go_wp2
          go_quiet (fail)
          go_wp2
          go_ret
          exact ⟨rfl, Jv.belowN ((Below.refl _ _).alloc (Nat.le_refl _) _) _⟩
        · by_cases c : 191 < x1.toNat
          · rw [if_pos ⟨h1, Or.inr c⟩]
            first | have g1 : decide (1 < (s.size : Int)) = true := decide_eq_true (by omega) | have g1 : decide (1 < (s.size : Int)) = false := decide_eq_false (by omega) | skip
            first | have g2 : decide (2 < (s.size : Int)) = true := decide_eq_true (by omega) | have g2 : decide (2 < (s.size : Int)) = false := decide_eq_false (by omega) | skip
            first | have g3 : decide ((x1.toNat : Int) < 128) = true := decide_eq_true (by omega) | have g3 : decide ((x1.toNat : Int) < 128) = false := decide_eq_false (by omega) | skip
            first | have g4 : decide (191 < (x1.toNat : Int)) = true := decide_eq_true (by omega) | have g4 : decide (191 < (x1.toNat : Int)) = false := decide_eq_false (by omega) | skip
            first | have g5 : decide ((x2.toNat : Int) < 128) = true := decide_eq_true (by omega) | have g5 : decide ((x2.toNat : Int) < 128) = false := decide_eq_false (by omega) | skip
            first | have g6 : decide (191 < (x2.toNat : Int)) = true := decide_eq_true (by omega) | have g6 : decide (191 < (x2.toNat : Int)) = false := decide_eq_false (by omega) | skip
            go_enter Tryz.func158, Tryz.ntmps158
            go_wp2
            go_quiet (fail)
            go_wp2
            go_ret
            exact ⟨rfl, Jv.belowN ((Below.refl _ _).alloc (Nat.le_refl _) _) _⟩
          · rw [if_neg (by omega)]
            by_cases h2 : 2 < s.size
            · have hs2 : s[2]'h2 = s.get! 2 := Jv.get_eq s 2 h2
              exfalso; omega
            · rw [if_neg (by omega)]
              first | have g1 : decide (1 < (s.size : Int)) = true := decide_eq_true (by omega) | have g1 : decide (1 < (s.size : Int)) = false := decide_eq_false (by omega) | skip
              first | have g2 : decide (2 < (s.size : Int)) = true := decide_eq_true (by omega) | have g2 : decide (2 < (s.size : Int)) = false := decide_eq_false (by omega) | skip
              first | have g3 : decide ((x1.toNat : Int) < 128) = true := decide_eq_true (by omega) | have g3 : decide ((x1.toNat : Int) < 128) = false := decide_eq_false (by omega) | skip
              first | have g4 : decide (191 < (x1.toNat : Int)) = true := decide_eq_true (by omega) | have g4 : decide (191 < (x1.toNat : Int)) = false := decide_eq_false (by omega) | skip
              first | have g5 : decide ((x2.toNat : Int) < 128) = true := decide_eq_true (by omega) | have g5 : decide ((x2.toNat : Int) < 128) = false := decide_eq_false (by omega) | skip
              first | have g6 : decide (191 < (x2.toNat : Int)) = true := decide_eq_true (by omega) | have g6 : decide (191 < (x2.toNat : Int)) = false := decide_eq_false (by omega) | skip
              go_enter Tryz.func158, Tryz.ntmps158
              go_wp2
              go_quiet (fail)
              go_wp2
              go_ret
              exact ⟨rfl, Jv.belowN ((Below.refl _ _).alloc (Nat.le_refl _) _) _⟩
      · rw [if_neg (by omega), if_neg (by omega)]
        first | have g1 : decide (1 < (s.size : Int)) = true := decide_eq_true (by omega) | have g1 : decide (1 < (s.size : Int)) = false := decide_eq_false (by omega) | skip
        first | have g2 : decide (2 < (s.size : Int)) = true := decide_eq_true (by omega) | have g2 : decide (2 < (s.size : Int)) = false := decide_eq_false (by omega) | skip
        first | have g3 : decide ((x1.toNat : Int) < 128) = true := decide_eq_true (by omega) | have g3 : decide ((x1.toNat : Int) < 128) = false := decide_eq_false (by omega) | skip
        first | have g4 : decide (191 < (x1.toNat : Int)) = true := decide_eq_true (by omega) | have g4 : decide (191 < (x1.toNat : Int)) = false := decide_eq_false (by omega) | skip
        first | have g5 : decide ((x2.toNat : Int) < 128) = true := decide_eq_true (by omega) | have g5 : decide ((x2.toNat : Int) < 128) = false := decide_eq_false (by omega) | skip
        first | have g6 : decide (191 < (x2.toNat : Int)) = true := decide_eq_true (by omega) | have g6 : decide (191 < (x2.toNat : Int)) = false := decide_eq_false (by omega) | skip
        go_enter Tryz.func158, Tryz.ntmps158
        go_wp2
        go_quiet (fail)
        go_wp2
        go_ret
        exact ⟨rfl, Jv.belowN ((Below.refl _ _).alloc (Nat.le_refl _) _) _⟩
  · rw [hX] at hc0 ⊢
    have ha := hA 2 (by omega)
    have hlo : Lib.accLo 2 = 128 := by decide
    have hhi : Lib.accHi 2 = 159 := by decide
    rw [show 35 / 16 = 2 from rfl, hlo, hhi]
    rw [hlo, hhi] at ha
    obtain ⟨ha1, ha2⟩ := ha
    clear hA hX hlo hhi
    generalize s.get! 0 = x0 at hs0 hc0 l0
    by_cases hn : 3 ≤ s.size
    · rw [if_pos (by omega)]
      go_enter Tryz.func158, Tryz.ntmps158
      go_wp2
      go_ret
      exact ⟨rfl, Below.refl _ _⟩
    · rw [if_neg (by omega)]
      by_cases h1 : 1 < s.size
      · have hs1 : s[1]'h1 = s.get! 1 := Jv.get_eq s 1 h1
        generalize s.get! 1 = x1 at hs1
        by_cases a : x1.toNat < 128
        · rw [if_pos ⟨h1, Or.inl a⟩]
          first | have g1 : decide (1 < (s.size : Int)) = true := decide_eq_true (by omega) | have g1 : decide (1 < (s.size : Int)) = false := decide_eq_false (by omega) | skip
          first | have g2 : decide (2 < (s.size : Int)) = true := decide_eq_true (by omega) | have g2 : decide (2 < (s.size : Int)) = false := decide_eq_false (by omega) | skip
          first | have g3 : decide ((x1.toNat : Int) < 128) = true := decide_eq_true (by omega) | have g3 : decide ((x1.toNat : Int) < 128) = false := decide_eq_false (by omega) | skip
          first | have g4 : decide (159 < (x1.toNat : Int)) = true := decide_eq_true (by omega) | have g4 : decide (159 < (x1.toNat : Int)) = false := decide_eq_false (by omega) | skip
          first | have g5 : decide ((x2.toNat : Int) < 128) = true := decide_eq_true (by omega) | have g5 : decide ((x2.toNat : Int) < 128) = false := decide_eq_false (by omega) | skip
          first | have g6 : decide (191 < (x2.toNat : Int)) = true := decide_eq_true (by omega) | have g6 : decide (191 < (x2.toNat : Int)) = false := decide_eq_false (by omega) | skip
          go_enter Tryz.func158, Tryz.ntmps158
          go_wp2
          go_quiet (fail)
          go_wp2
          go_ret
          exact ⟨rfl, Jv.belowN ((Below.refl _ _).alloc (Nat.le_refl _) _) _⟩
        · by_cases c : 159 < x1.toNat
          · rw [if_pos ⟨h1, Or.inr c⟩]
            first | have g1 : decide (1 < (s.size : Int)) = true := decide_eq_true (by omega) | have g1 : decide (1 < (s.size : Int)) = false := decide_eq_false (by omega) | skip
            first | have g2 : decide (2 < (s.size : Int)) = true := decide_eq_true (by omega) | have g2 : decide (2 < (s.size : Int)) = false := decide_eq_false (by omega) | skip
            first | have g3 : decide ((x1.toNat : Int) < 128) = true := decide_eq_true (by omega) | have g3 : decide ((x1.toNat : Int) < 128) = false := decide_eq_false (by omega) | skip
            first | have g4 : decide (159 < (x1.toNat : Int)) = true := decide_eq_true (by omega) | have g4 : decide (159 < (x1.toNat : Int)) = false := decide_eq_false (by omega) | skip
            first | have g5 : decide ((x2.toNat : Int) < 128) = true := decide_eq_true (by omega) | have g5 : decide ((x2.toNat : Int) < 128) = false := decide_eq_false (by omega) | skip
            first | have g6 : decide (191 < (x2.toNat : Int)) = true := decide_eq_true (by omega) | have g6 : decide (191 < (x2.toNat : Int)) = false := decide_eq_false (by omega) | skip
            go_enter Tryz.func158, Tryz.ntmps158
            go_wp2
            go_quiet (fail)
            go_wp2
            go_ret
            exact ⟨rfl, Jv.belowN ((Below.refl _ _).alloc (Nat.le_refl _) _) _⟩
          · rw [if_neg (by omega)]
            by_cases h2 : 2 < s.size
            · have hs2 : s[2]'h2 = s.get! 2 := Jv.get_eq s 2 h2
              exfalso; omega
            · rw [if_neg (by omega)]
              first | have g1 : decide (1 < (s.size : Int)) = true := decide_eq_true (by omega) | have g1 : decide (1 < (s.size : Int)) = false := decide_eq_false (by omega) | skip
              first | have g2 : decide (2 < (s.size : Int)) = true := decide_eq_true (by omega) | have g2 : decide (2 < (s.size : Int)) = false := decide_eq_false (by omega) | skip
              first | have g3 : decide ((x1.toNat : Int) < 128) = true := decide_eq_true (by omega) | have g3 : decide ((x1.toNat : Int) < 128) = false := decide_eq_false (by omega) | skip
              first | have g4 : decide (159 < (x1.toNat : Int)) = true := decide_eq_true (by omega) | have g4 : decide (159 < (x1.toNat : Int)) = false := decide_eq_false (by omega) | skip
              first | have g5 : decide ((x2.toNat : Int) < 128) = true := decide_eq_true (by omega) | have g5 : decide ((x2.toNat : Int) < 128) = false := decide_eq_false (by omega) | skip
              first | have g6 : decide (191 < (x2.toNat : Int)) = true := decide_eq_true (by omega) | have g6 : decide (191 < (x2.toNat : Int)) = false := decide_eq_false (by omega) | skip
              go_enter Tryz.func158, Tryz.ntmps158
              go_wp2
              go_quiet (fail)
              go_wp2
              go_ret
              exact ⟨rfl, Jv.belowN ((Below.refl _ _).alloc (Nat.le_refl _) _) _⟩
      · rw [if_neg (by omega), if_neg (by omega)]
        first | have g1 : decide (1 < (s.size : Int)) = true := decide_eq_true (by omega) | have g1 : decide (1 < (s.size : Int)) = false := decide_eq_false (by omega) | skip
        first | have g2 : decide (2 < (s.size : Int)) = true := decide_eq_true (by omega) | have g2 : decide (2 < (s.size : Int)) = false := decide_eq_false (by omega) | skip
        first | have g3 : decide ((x1.toNat : Int) < 128) = true := decide_eq_true (by omega) | have g3 : decide ((x1.toNat : Int) < 128) = false := decide_eq_false (by omega) | skip
        first | have g4 : decide (159 < (x1.toNat : Int)) = true := decide_eq_true (by omega) | have g4 : decide (159 < (x1.toNat : Int)) = false := decide_eq_false (by omega) | skip
        first | have g5 : decide ((x2.toNat : Int) < 128) = true := decide_eq_true (by omega) | have g5 : decide ((x2.toNat : Int) < 128) = false := decide_eq_false (by omega) | skip
        first | have g6 : decide (191 < (x2.toNat : Int)) = true := decide_eq_true (by omega) | have g6 : decide (191 < (x2.toNat : Int)) = false := decide_eq_false (by omega) | skip
        go_enter Tryz.func158, Tryz.ntmps158
        go_wp2
        go_quiet (fail)
        go_wp2
        go_ret
        exact ⟨rfl, Jv.belowN ((Below.refl _ _).alloc (Nat.le_refl _) _) _⟩
  · rw [hX] at hc0 ⊢
    have ha := hA 3 (by omega)
    have hlo : Lib.accLo 3 = 144 := by decide
    have hhi : Lib.accHi 3 = 191 := by decide
    rw [show 52 / 16 = 3 from rfl, hlo, hhi]
    rw [hlo, hhi] at ha
    obtain ⟨ha1, ha2⟩ := ha
    clear hA hX hlo hhi
    generalize s.get! 0 = x0 at hs0 hc0 l0
    by_cases hn : 4 ≤ s.size
    · rw [if_pos (by omega)]
      go_enter Tryz.func158, Tryz.ntmps158
      go_wp2
      go_ret
      exact ⟨rfl, Below.refl _ _⟩
    · rw [if_neg (by omega)]
      by_cases h1 : 1 < s.size
      · have hs1 : s[1]'h1 = s.get! 1 := Jv.get_eq s 1 h1
        generalize s.get! 1 = x1 at hs1
        by_cases a : x1.toNat < 144
        · rw [if_pos ⟨h1, Or.inl a⟩]
          first | have g1 : decide (1 < (s.size : Int)) = true := decide_eq_true (by omega) | have g1 : decide (1 < (s.size : Int)) = false := decide_eq_false (by omega) | skip
          first | have g2 : decide (2 < (s.size : Int)) = true := decide_eq_true (by omega) | have g2 : decide (2 < (s.size : Int)) = false := decide_eq_false (by omega) | skip
          first | have g3 : decide ((x1.toNat : Int) < 144) = true := decide_eq_true (by omega) | have g3 : decide ((x1.toNat : Int) < 144) = false := decide_eq_false (by omega) | skip
          first | have g4 : decide (191 < (x1.toNat : Int)) = true := decide_eq_true (by omega) | have g4 : decide (191 < (x1.toNat : Int)) = false := decide_eq_false (by omega) | skip
          first | have g5 : decide ((x2.toNat : Int) < 128) = true := decide_eq_true (by omega) | have g5 : decide ((x2.toNat : Int) < 128) = false := decide_eq_false (by omega) | skip
          first | have g6 : decide (191 < (x2.toNat : Int)) = true := decide_eq_true (by omega) | have g6 : decide (191 < (x2.toNat : Int)) = false := decide_eq_false (by omega) | skip
          go_enter Tryz.func158, Tryz.ntmps158
          go_wp2
          go_quiet (fail)
          go_wp2
          go_ret
          exact ⟨rfl, Jv.belowN ((Below.refl _ _).alloc (Nat.le_refl _) _) _⟩
        · by_cases c : 191 < x1.toNat
          · rw [if_pos ⟨h1, Or.inr c⟩]
            first | have g1 : decide (1 < (s.size : Int)) = true := decide_eq_true (by omega) | have g1 : decide (1 < (s.size : Int)) = false := decide_eq_false (by omega) | skip
            first | have g2 : decide (2 < (s.size : Int)) = true := decide_eq_true (by omega) | have g2 : decide (2 < (s.size : Int)) = false := decide_eq_false (by omega) | skip
            first | have g3 : decide ((x1.toNat : Int) < 144) = true := decide_eq_true (by omega) | have g3 : decide ((x1.toNat : Int) < 144) = false := decide_eq_false (by omega) | skip
            first | have g4 : decide (191 < (x1.toNat : Int)) = true := decide_eq_true (by omega) | have g4 : decide (191 < (x1.toNat : Int)) = false := decide_eq_false (by omega) | skip
            first | have g5 : decide ((x2.toNat : Int) < 128) = true := decide_eq_true (by omega) | have g5 : decide ((x2.toNat : Int) < 128) = false := decide_eq_false (by omega) | skip
            first | have g6 : decide (191 < (x2.toNat : Int)) = true := decide_eq_true (by omega) | have g6 : decide (191 < (x2.toNat : Int)) = false := decide_eq_false (by omega) | skip
            go_enter Tryz.func158, Tryz.ntmps158
            go_wp2
            go_quiet (fail)
            go_wp2
            go_ret
            exact ⟨rfl, Jv.belowN ((Below.refl _ _).alloc (Nat.le_refl _) _) _⟩
          · rw [if_neg (by omega)]
            by_cases h2 : 2 < s.size
            · have hs2 : s[2]'h2 = s.get! 2 := Jv.get_eq s 2 h2
              generalize s.get! 2 = x2 at hs2
              by_cases a2 : x2.toNat < 128
              · rw [if_pos ⟨h2, Or.inl a2⟩]
                first | have g1 : decide (1 < (s.size : Int)) = true := decide_eq_true (by omega) | have g1 : decide (1 < (s.size : Int)) = false := decide_eq_false (by omega) | skip
                first | have g2 : decide (2 < (s.size : Int)) = true := decide_eq_true (by omega) | have g2 : decide (2 < (s.size : Int)) = false := decide_eq_false (by omega) | skip
                first | have g3 : decide ((x1.toNat : Int) < 144) = true := decide_eq_true (by omega) | have g3 : decide ((x1.toNat : Int) < 144) = false := decide_eq_false (by omega) | skip
                first | have g4 : decide (191 < (x1.toNat : Int)) = true := decide_eq_true (by omega) | have g4 : decide (191 < (x1.toNat : Int)) = false := decide_eq_false (by omega) | skip
                first | have g5 : decide ((x2.toNat : Int) < 128) = true := decide_eq_true (by omega) | have g5 : decide ((x2.toNat : Int) < 128) = false := decide_eq_false (by omega) | skip
                first | have g6 : decide (191 < (x2.toNat : Int)) = true := decide_eq_true (by omega) | have g6 : decide (191 < (x2.toNat : Int)) = false := decide_eq_false (by omega) | skip
                go_enter Tryz.func158, Tryz.ntmps158
                go_wp2
                go_quiet (fail)
                go_wp2
                go_ret
                exact ⟨rfl, Jv.belowN ((Below.refl _ _).alloc (Nat.le_refl _) _) _⟩
              · by_cases c2 : 191 < x2.toNat
                · rw [if_pos ⟨h2, Or.inr c2⟩]
                  first | have g1 : decide (1 < (s.size : Int)) = true := decide_eq_true (by omega) | have g1 : decide (1 < (s.size : Int)) = false := decide_eq_false (by omega) | skip
                  first | have g2 : decide (2 < (s.size : Int)) = true := decide_eq_true (by omega) | have g2 : decide (2 < (s.size : Int)) = false := decide_eq_false (by omega) | skip
                  first | have g3 : decide ((x1.toNat : Int) < 144) = true := decide_eq_true (by omega) | have g3 : decide ((x1.toNat : Int) < 144) = false := decide_eq_false (by omega) | skip
                  first | have g4 : decide (191 < (x1.toNat : Int)) = true := decide_eq_true (by omega) | have g4 : decide (191 < (x1.toNat : Int)) = false := decide_eq_false (by omega) | skip
                  first | have g5 : decide ((x2.toNat : Int) < 128) = true := decide_eq_true (by omega) | have g5 : decide ((x2.toNat : Int) < 128) = false := decide_eq_false (by omega) | skip
                  first | have g6 : decide (191 < (x2.toNat : Int)) = true := decide_eq_true (by omega) | have g6 : decide (191 < (x2.toNat : Int)) = false := decide_eq_false (by omega) | skip
                  go_enter Tryz.func158, Tryz.ntmps158
                  go_wp2
                  go_quiet (fail)
                  go_wp2
                  go_ret
                  exact ⟨rfl, Jv.belowN ((Below.refl _ _).alloc (Nat.le_refl _) _) _⟩
                · rw [if_neg (by omega)]
                  first | have g1 : decide (1 < (s.size : Int)) = true := decide_eq_true (by omega) | have g1 : decide (1 < (s.size : Int)) = false := decide_eq_false (by omega) | skip
                  first | have g2 : decide (2 < (s.size : Int)) = true := decide_eq_true (by omega) | have g2 : decide (2 < (s.size : Int)) = false := decide_eq_false (by omega) | skip
                  first | have g3 : decide ((x1.toNat : Int) < 144) = true := decide_eq_true (by omega) | have g3 : decide ((x1.toNat : Int) < 144) = false := decide_eq_false (by omega) | skip
                  first | have g4 : decide (191 < (x1.toNat : Int)) = true := decide_eq_true (by omega) | have g4 : decide (191 < (x1.toNat : Int)) = false := decide_eq_false (by omega) | skip
                  first | have g5 : decide ((x2.toNat : Int) < 128) = true := decide_eq_true (by omega) | have g5 : decide ((x2.toNat : Int) < 128) = false := decide_eq_false (by omega) | skip
                  first | have g6 : decide (191 < (x2.toNat : Int)) = true := decide_eq_true (by omega) | have g6 : decide (191 < (x2.toNat : Int)) = false := decide_eq_false (by omega) | skip
                  go_enter Tryz.func158, Tryz.ntmps158
                  go_wp2
                  go_quiet (fail)
                  go_wp2
                  go_ret
                  exact ⟨rfl, Jv.belowN ((Below.refl _ _).alloc (Nat.le_refl _) _) _⟩
            · rw [if_neg (by omega)]
              first | have g1 : decide (1 < (s.size : Int)) = true := decide_eq_true (by omega) | have g1 : decide (1 < (s.size : Int)) = false := decide_eq_false (by omega) | skip
              first | have g2 : decide (2 < (s.size : Int)) = true := decide_eq_true (by omega) | have g2 : decide (2 < (s.size : Int)) = false := decide_eq_false (by omega) | skip
              first | have g3 : decide ((x1.toNat : Int) < 144) = true := decide_eq_true (by omega) | have g3 : decide ((x1.toNat : Int) < 144) = false := decide_eq_false (by omega) | skip
              first | have g4 : decide (191 < (x1.toNat : Int)) = true := decide_eq_true (by omega) | have g4 : decide (191 < (x1.toNat : Int)) = false := decide_eq_false (by omega) | skip
              first | have g5 : decide ((x2.toNat : Int) < 128) = true := decide_eq_true (by omega) | have g5 : decide ((x2.toNat : Int) < 128) = false := decide_eq_false (by omega) | skip
              first | have g6 : decide (191 < (x2.toNat : Int)) = true := decide_eq_true (by omega) | have g6 : decide (191 < (x2.toNat : Int)) = false := decide_eq_false (by omega) | skip
              go_enter Tryz.func158, Tryz.ntmps158
              go_wp2
              go_quiet (fail)
              go_wp2
              go_ret
              exact ⟨rfl, Jv.belowN ((Below.refl _ _).alloc (Nat.le_refl _) _) _⟩
      · rw [if_neg (by omega), if_neg (by omega)]
        first | have g1 : decide (1 < (s.size : Int)) = true := decide_eq_true (by omega) | have g1 : decide (1 < (s.size : Int)) = false := decide_eq_false (by omega) | skip
        first | have g2 : decide (2 < (s.size : Int)) = true := decide_eq_true (by omega) | have g2 : decide (2 < (s.size : Int)) = false := decide_eq_false (by omega) | skip
        first | have g3 : decide ((x1.toNat : Int) < 144) = true := decide_eq_true (by omega) | have g3 : decide ((x1.toNat : Int) < 144) = false := decide_eq_false (by omega) | skip
        first | have g4 : decide (191 < (x1.toNat : Int)) = true := decide_eq_true (by omega) | have g4 : decide (191 < (x1.toNat : Int)) = false := decide_eq_false (by omega) | skip
        first | have g5 : decide ((x2.toNat : Int) < 128) = true := decide_eq_true (by omega) | have g5 : decide ((x2.toNat : Int) < 128) = false := decide_eq_false (by omega) | skip
        first | have g6 : decide (191 < (x2.toNat : Int)) = true := decide_eq_true (by omega) | have g6 : decide (191 < (x2.toNat : Int)) = false := decide_eq_false (by omega) | skip
        go_enter Tryz.func158, Tryz.ntmps158
        go_wp2
        go_quiet (fail)
        go_wp2
        go_ret
        exact ⟨rfl, Jv.belowN ((Below.refl _ _).alloc (Nat.le_refl _) _) _⟩
  · rw [hX] at hc0 ⊢
    have ha := hA 0 (by omega)
    have hlo : Lib.accLo 0 = 128 := by decide
    have hhi : Lib.accHi 0 = 191 := by decide
    rw [show 4 / 16 = 0 from rfl, hlo, hhi]
    rw [hlo, hhi] at ha
    obtain ⟨ha1, ha2⟩ := ha
    clear hA hX hlo hhi
    generalize s.get! 0 = x0 at hs0 hc0 l0
    by_cases hn : 4 ≤ s.size
    · rw [if_pos (by omega)]
      go_enter Tryz.func158, Tryz.ntmps158
      go_wp2
      go_ret
      exact ⟨rfl, Below.refl _ _⟩
    · rw [if_neg (by omega)]
      by_cases h1 : 1 < s.size
      · have hs1 : s[1]'h1 = s.get! 1 := Jv.get_eq s 1 h1
        generalize s.get! 1 = x1 at hs1
        by_cases a : x1.toNat < 128
        · rw [if_pos ⟨h1, Or.inl a⟩]
          first | have g1 : decide (1 < (s.size : Int)) = true := decide_eq_true (by omega) | have g1 : decide (1 < (s.size : Int)) = false := decide_eq_false (by omega) | skip
          first | have g2 : decide (2 < (s.size : Int)) = true := decide_eq_true (by omega) | have g2 : decide (2 < (s.size : Int)) = false := decide_eq_false (by omega) | skip
          first | have g3 : decide ((x1.toNat : Int) < 128) = true := decide_eq_true (by omega) | have g3 : decide ((x1.toNat : Int) < 128) = false := decide_eq_false (by omega) | skip
          first | have g4 : decide (191 < (x1.toNat : Int)) = true := decide_eq_true (by omega) | have g4 : decide (191 < (x1.toNat : Int)) = false := decide_eq_false (by omega) | skip
          first | have g5 : decide ((x2.toNat : Int) < 128) = true := decide_eq_true (by omega) | have g5 : decide ((x2.toNat : Int) < 128) = false := decide_eq_false (by omega) | skip
          first | have g6 : decide (191 < (x2.toNat : Int)) = true := decide_eq_true (by omega) | have g6 : decide (191 < (x2.toNat : Int)) = false := decide_eq_false (by omega) | skip
          go_enter Tryz.func158, Tryz.ntmps158
          go_wp2
          go_quiet (fail)
          go_wp2
          go_ret
          exact ⟨rfl, Jv.belowN ((Below.refl _ _).alloc (Nat.le_refl _) _) _⟩
        · by_cases c : 191 < x1.toNat
          · rw [if_pos ⟨h1, Or.inr c⟩]
            first | have g1 : decide (1 < (s.size : Int)) = true := decide_eq_true (by omega) | have g1 : decide (1 < (s.size : Int)) = false := decide_eq_false (by omega) | skip
            first | have g2 : decide (2 < (s.size : Int)) = true := decide_eq_true (by omega) | have g2 : decide (2 < (s.size : Int)) = false := decide_eq_false (by omega) | skip
            first | have g3 : decide ((x1.toNat : Int) < 128) = true := decide_eq_true (by omega) | have g3 : decide ((x1.toNat : Int) < 128) = false := decide_eq_false (by omega) | skip
            first | have g4 : decide (191 < (x1.toNat : Int)) = true := decide_eq_true (by omega) | have g4 : decide (191 < (x1.toNat : Int)) = false := decide_eq_false (by omega) | skip
            first | have g5 : decide ((x2.toNat : Int) < 128) = true := decide_eq_true (by omega) | have g5 : decide ((x2.toNat : Int) < 128) = false := decide_eq_false (by omega) | skip
            first | have g6 : decide (191 < (x2.toNat : Int)) = true := decide_eq_true (by omega) | have g6 : decide (191 < (x2.toNat : Int)) = false := decide_eq_false (by omega) | skip
            go_enter Tryz.func158, Tryz.ntmps158
            go_wp2
            go_quiet (fail)
            go_wp2
            go_ret
            exact ⟨rfl, Jv.belowN ((Below.refl _ _).alloc (Nat.le_refl _) _) _⟩
          · rw [if_neg (by omega)]
            by_cases h2 : 2 < s.size
            · have hs2 : s[2]'h2 = s.get! 2 := Jv.get_eq s 2 h2
              generalize s.get! 2 = x2 at hs2
              by_cases a2 : x2.toNat < 128
              · rw [if_pos ⟨h2, Or.inl a2⟩]
                first | have g1 : decide (1 < (s.size : Int)) = true := decide_eq_true (by omega) | have g1 : decide (1 < (s.size : Int)) = false := decide_eq_false (by omega) | skip
                first | have g2 : decide (2 < (s.size : Int)) = true := decide_eq_true (by omega) | have g2 : decide (2 < (s.size : Int)) = false := decide_eq_false (by omega) | skip
                first | have g3 : decide ((x1.toNat : Int) < 128) = true := decide_eq_true (by omega) | have g3 : decide ((x1.toNat : Int) < 128) = false := decide_eq_false (by omega) | skip
                first | have g4 : decide (191 < (x1.toNat : Int)) = true := decide_eq_true (by omega) | have g4 : decide (191 < (x1.toNat : Int)) = false := decide_eq_false (by omega) | skip
                first | have g5 : decide ((x2.toNat : Int) < 128) = true := decide_eq_true (by omega) | have g5 : decide ((x2.toNat : Int) < 128) = false := decide_eq_false (by omega) | skip
                first | have g6 : decide (191 < (x2.toNat : Int)) = true := decide_eq_true (by omega) | have g6 : decide (191 < (x2.toNat : Int)) = false := decide_eq_false (by omega) | skip
                go_enter Tryz.func158, Tryz.ntmps158
                go_wp2
                go_quiet (fail)
                go_wp2
                go_ret
                exact ⟨rfl, Jv.belowN ((Below.refl _ _).alloc (Nat.le_refl _) _) _⟩
              · by_cases c2 : 191 < x2.toNat
                · rw [if_pos ⟨h2, Or.inr c2⟩]
                  first | have g1 : decide (1 < (s.size : Int)) = true := decide_eq_true (by omega) | have g1 : decide (1 < (s.size : Int)) = false := decide_eq_false (by omega) | skip
                  first | have g2 : decide (2 < (s.size : Int)) = true := decide_eq_true (by omega) | have g2 : decide (2 < (s.size : Int)) = false := decide_eq_false (by omega) | skip
                  first | have g3 : decide ((x1.toNat : Int) < 128) = true := decide_eq_true (by omega) | have g3 : decide ((x1.toNat : Int) < 128) = false := decide_eq_false (by omega) | skip
                  first | have g4 : decide (191 < (x1.toNat : Int)) = true := decide_eq_true (by omega) | have g4 : decide (191 < (x1.toNat : Int)) = false := decide_eq_false (by omega) | skip
                  first | have g5 : decide ((x2.toNat : Int) < 128) = true := decide_eq_true (by omega) | have g5 : decide ((x2.toNat : Int) < 128) = false := decide_eq_false (by omega) | skip
                  first | have g6 : decide (191 < (x2.toNat : Int)) = true := decide_eq_true (by omega) | have g6 : decide (191 < (x2.toNat : Int)) = false := decide_eq_false (by omega) | skip
                  go_enter Tryz.func158, Tryz.ntmps158
                  go_wp2
                  go_quiet (fail)
                  go_wp2
                  go_ret
                  exact ⟨rfl, Jv.belowN ((Below.refl _ _).alloc (Nat.le_refl _) _) _⟩
                · rw [if_neg (by omega)]
                  first | have g1 : decide (1 < (s.size : Int)) = true := decide_eq_true (by omega) | have g1 : decide (1 < (s.size : Int)) = false := decide_eq_false (by omega) | skip
                  first | have g2 : decide (2 < (s.size : Int)) = true := decide_eq_true (by omega) | have g2 : decide (2 < (s.size : Int)) = false := decide_eq_false (by omega) | skip
                  first | have g3 : decide ((x1.toNat : Int) < 128) = true := decide_eq_true (by omega) | have g3 : decide ((x1.toNat : Int) < 128) = false := decide_eq_false (by omega) | skip
                  first | have g4 : decide (191 < (x1.toNat : Int)) = true := decide_eq_true (by omega) | have g4 : decide (191 < (x1.toNat : Int)) = false := decide_eq_false (by omega) | skip
                  first | have g5 : decide ((x2.toNat : Int) < 128) = true := decide_eq_true (by omega) | have g5 : decide ((x2.toNat : Int) < 128) = false := decide_eq_false (by omega) | skip
                  first | have g6 : decide (191 < (x2.toNat : Int)) = true := decide_eq_true (by omega) | have g6 : decide (191 < (x2.toNat : Int)) = false := decide_eq_false (by omega) | skip
                  go_enter Tryz.func158, Tryz.ntmps158
                  go_wp2
                  go_quiet (fail)
                  go_wp2
                  go_ret
                  exact ⟨rfl, Jv.belowN ((Below.refl _ _).alloc (Nat.le_refl _) _) _⟩
            · rw [if_neg (by omega)]
              first | have g1 : decide (1 < (s.size : Int)) = true := decide_eq_true (by omega) | have g1 : decide (1 < (s.size : Int)) = false := decide_eq_false (by omega) | skip
              first | have g2 : decide (2 < (s.size : Int)) = true := decide_eq_true (by omega) | have g2 : decide (2 < (s.size : Int)) = false := decide_eq_false (by omega) | skip
              first | have g3 : decide ((x1.toNat : Int) < 128) = true := decide_eq_true (by omega) | have g3 : decide ((x1.toNat : Int) < 128) = false := decide_eq_false (by omega) | skip
              first | have g4 : decide (191 < (x1.toNat : Int)) = true := decide_eq_true (by omega) | have g4 : decide (191 < (x1.toNat : Int)) = false := decide_eq_false (by omega) | skip
              first | have g5 : decide ((x2.toNat : Int) < 128) = true := decide_eq_true (by omega) | have g5 : decide ((x2.toNat : Int) < 128) = false := decide_eq_false (by omega) | skip
              first | have g6 : decide (191 < (x2.toNat : Int)) = true := decide_eq_true (by omega) | have g6 : decide (191 < (x2.toNat : Int)) = false := decide_eq_false (by omega) | skip
              go_enter Tryz.func158, Tryz.ntmps158
              go_wp2
              go_quiet (fail)
              go_wp2
              go_ret
              exact ⟨rfl, Jv.belowN ((Below.refl _ _).alloc (Nat.le_refl _) _) _⟩
      · rw [if_neg (by omega), if_neg (by omega)]
        first | have g1 : decide (1 < (s.size : Int)) = true := decide_eq_true (by omega) | have g1 : decide (1 < (s.size : Int)) = false := decide_eq_false (by omega) | skip
        first | have g2 : decide (2 < (s.size : Int)) = true := decide_eq_true (by omega) | have g2 : decide (2 < (s.size : Int)) = false := decide_eq_false (by omega) | skip
        first | have g3 : decide ((x1.toNat : Int) < 128) = true := decide_eq_true (by omega) | have g3 : decide ((x1.toNat : Int) < 128) = false := decide_eq_false (by omega) | skip
        first | have g4 : decide (191 < (x1.toNat : Int)) = true := decide_eq_true (by omega) | have g4 : decide (191 < (x1.toNat : Int)) = false := decide_eq_false (by omega) | skip
        first | have g5 : decide ((x2.toNat : Int) < 128) = true := decide_eq_true (by omega) | have g5 : decide ((x2.toNat : Int) < 128) = false := decide_eq_false (by omega) | skip
        first | have g6 : decide (191 < (x2.toNat : Int)) = true := decide_eq_true (by omega) | have g6 : decide (191 < (x2.toNat : Int)) = false := decide_eq_false (by omega) | skip
        go_enter Tryz.func158, Tryz.ntmps158
        go_wp2
        go_quiet (fail)
        go_wp2
        go_ret
        exact ⟨rfl, Jv.belowN ((Below.refl _ _).alloc (Nat.le_refl _) _) _⟩
  · rw [hX] at hc0 ⊢
    have ha := hA 4 (by omega)
    have hlo : Lib.accLo 4 = 128 := by decide
    have hhi : Lib.accHi 4 = 143 := by decide
    rw [show 68 / 16 = 4 from rfl, hlo, hhi]
    rw [hlo, hhi] at ha
    obtain ⟨ha1, ha2⟩ := ha
    clear hA hX hlo hhi
    generalize s.get! 0 = x0 at hs0 hc0 l0
    by_cases hn : 4 ≤ s.size
    · rw [if_pos (by omega)]
      go_enter Tryz.func158, Tryz.ntmps158
      go_wp2
      go_ret
      exact ⟨rfl, Below.refl _ _⟩
    · rw [if_neg (by omega)]
      by_cases h1 : 1 < s.size
      · have hs1 : s[1]'h1 = s.get! 1 := Jv.get_eq s 1 h1
        generalize s.get! 1 = x1 at hs1
        by_cases a : x1.toNat < 128
        · rw [if_pos ⟨h1, Or.inl a⟩]
          first | have g1 : decide (1 < (s.size : Int)) = true := decide_eq_true (by omega) | have g1 : decide (1 < (s.size : Int)) = false := decide_eq_false (by omega) | skip
          first | have g2 : decide (2 < (s.size : Int)) = true := decide_eq_true (by omega) | have g2 : decide (2 < (s.size : Int)) = false := decide_eq_false (by omega) | skip
          first | have g3 : decide ((x1.toNat : Int) < 128) = true := decide_eq_true (by omega) | have g3 : decide ((x1.toNat : Int) < 128) = false := decide_eq_false (by omega) | skip
          first | have g4 : decide (143 < (x1.toNat : Int)) = true := decide_eq_true (by omega) | have g4 : decide (143 < (x1.toNat : Int)) = false := decide_eq_false (by omega) | skip
          first | have g5 : decide ((x2.toNat : Int) < 128) = true := decide_eq_true (by omega) | have g5 : decide ((x2.toNat : Int) < 128) = false := decide_eq_false (by omega) | skip
          first | have g6 : decide (191 < (x2.toNat : Int)) = true := decide_eq_true (by omega) | have g6 : decide (191 < (x2.toNat : Int)) = false := decide_eq_false (by omega) | skip
          go_enter Tryz.func158, Tryz.ntmps158
          go_wp2
          go_quiet (fail)
          go_wp2
          go_ret
          exact ⟨rfl, Jv.belowN ((Below.refl _ _).alloc (Nat.le_refl _) _) _⟩
        · by_cases c : 143 < x1.toNat
          · rw [if_pos ⟨h1, Or.inr c⟩]
            first | have g1 : decide (1 < (s.size : Int)) = true := decide_eq_true (by omega) | have g1 : decide (1 < (s.size : Int)) = false := decide_eq_false (by omega) | skip
            first | have g2 : decide (2 < (s.size : Int)) = true := decide_eq_true (by omega) | have g2 : decide (2 < (s.size : Int)) = false := decide_eq_false (by omega) | skip
            first | have g3 : decide ((x1.toNat : Int) < 128) = true := decide_eq_true (by omega) | have g3 : decide ((x1.toNat : Int) < 128) = false := decide_eq_false (by omega) | skip
            first | have g4 : decide (143 < (x1.toNat : Int)) = true := decide_eq_true (by omega) | have g4 : decide (143 < (x1.toNat : Int)) = false := decide_eq_false (by omega) | skip
            first | have g5 : decide ((x2.toNat : Int) < 128) = true := decide_eq_true (by omega) | have g5 : decide ((x2.toNat : Int) < 128) = false := decide_eq_false (by omega) | skip
            first | have g6 : decide (191 < (x2.toNat : Int)) = true := decide_eq_true (by omega) | have g6 : decide (191 < (x2.toNat : Int)) = false := decide_eq_false (by omega) | skip
            go_enter Tryz.func158, Tryz.ntmps158
            go_wp2
            go_quiet (fail)
            go_wp2
            go_ret
            exact ⟨rfl, Jv.belowN ((Below.refl _ _).alloc (Nat.le_refl _) _) _⟩
          · rw [if_neg (by omega)]
            by_cases h2 : 2 < s.size
            · have hs2 : s[2]'h2 = s.get! 2 := Jv.get_eq s 2 h2
              generalize s.get! 2 = x2 at hs2
              by_cases a2 : x2.toNat < 128
              · rw [if_pos ⟨h2, Or.inl a2⟩]
                first | have g1 : decide (1 < (s.size : Int)) = true := decide_eq_true (by omega) | have g1 : decide (1 < (s.size : Int)) = false := decide_eq_false (by omega) | skip
                first | have g2 : decide (2 < (s.size : Int)) = true := decide_eq_true (by omega) | have g2 : decide (2 < (s.size : Int)) = false := decide_eq_false (by omega) | skip
                first | have g3 : decide ((x1.toNat : Int) < 128) = true := decide_eq_true (by omega) | have g3 : decide ((x1.toNat : Int) < 128) = false := decide_eq_false (by omega) | skip
                first | have g4 : decide (143 < (x1.toNat : Int)) = true := decide_eq_true (by omega) | have g4 : decide (143 < (x1.toNat : Int)) = false := decide_eq_false (by omega) | skip
                first | have g5 : decide ((x2.toNat : Int) < 128) = true := decide_eq_true (by omega) | have g5 : decide ((x2.toNat : Int) < 128) = false := decide_eq_false (by omega) | skip
                first | have g6 : decide (191 < (x2.toNat : Int)) = true := decide_eq_true (by omega) | have g6 : decide (191 < (x2.toNat : Int)) = false := decide_eq_false (by omega) | skip
                go_enter Tryz.func158, Tryz.ntmps158
                go_wp2
                go_quiet (fail)
                go_wp2
                go_ret
                exact ⟨rfl, Jv.belowN ((Below.refl _ _).alloc (Nat.le_refl _) _) _⟩
              · by_cases c2 : 191 < x2.toNat
                · rw [if_pos ⟨h2, Or.inr c2⟩]
                  first | have g1 : decide (1 < (s.size : Int)) = true := decide_eq_true (by omega) | have g1 : decide (1 < (s.size : Int)) = false := decide_eq_false (by omega) | skip
                  first | have g2 : decide (2 < (s.size : Int)) = true := decide_eq_true (by omega) | have g2 : decide (2 < (s.size : Int)) = false := decide_eq_false (by omega) | skip
                  first | have g3 : decide ((x1.toNat : Int) < 128) = true := decide_eq_true (by omega) | have g3 : decide ((x1.toNat : Int) < 128) = false := decide_eq_false (by omega) | skip
                  first | have g4 : decide (143 < (x1.toNat : Int)) = true := decide_eq_true (by omega) | have g4 : decide (143 < (x1.toNat : Int)) = false := decide_eq_false (by omega) | skip
                  first | have g5 : decide ((x2.toNat : Int) < 128) = true := decide_eq_true (by omega) | have g5 : decide ((x2.toNat : Int) < 128) = false := decide_eq_false (by omega) | skip
                  first | have g6 : decide (191 < (x2.toNat : Int)) = true := decide_eq_true (by omega) | have g6 : decide (191 < (x2.toNat : Int)) = false := decide_eq_false (by omega) | skip
                  go_enter Tryz.func158, Tryz.ntmps158
                  go_wp2
                  go_quiet (fail)
                  go_wp2
                  go_ret
                  exact ⟨rfl, Jv.belowN ((Below.refl _ _).alloc (Nat.le_refl _) _) _⟩
                · rw [if_neg (by omega)]
                  first | have g1 : decide (1 < (s.size : Int)) = true := decide_eq_true (by omega) | have g1 : decide (1 < (s.size : Int)) = false := decide_eq_false (by omega) | skip
                  first | have g2 : decide (2 < (s.size : Int)) = true := decide_eq_true (by omega) | have g2 : decide (2 < (s.size : Int)) = false := decide_eq_false (by omega) | skip
                  first | have g3 : decide ((x1.toNat : Int) < 128) = true := decide_eq_true (by omega) | have g3 : decide ((x1.toNat : Int) < 128) = false := decide_eq_false (by omega) | skip
                  first | have g4 : decide (143 < (x1.toNat : Int)) = true := decide_eq_true (by omega) | have g4 : decide (143 < (x1.toNat : Int)) = false := decide_eq_false (by omega) | skip
                  first | have g5 : decide ((x2.toNat : Int) < 128) = true := decide_eq_true (by omega) | have g5 : decide ((x2.toNat : Int) < 128) = false := decide_eq_false (by omega) | skip
                  first | have g6 : decide (191 < (x2.toNat : Int)) = true := decide_eq_true (by omega) | have g6 : decide (191 < (x2.toNat : Int)) = false := decide_eq_false (by omega) | skip
                  go_enter Tryz.func158, Tryz.ntmps158
                  go_wp2
                  go_quiet (fail)
                  go_wp2
                  go_ret
                  exact ⟨rfl, Jv.belowN ((Below.refl _ _).alloc (Nat.le_refl _) _) _⟩
            · rw [if_neg (by omega)]
              first | have g1 : decide (1 < (s.size : Int)) = true := decide_eq_true (by omega) | have g1 : decide (1 < (s.size : Int)) = false := decide_eq_false (by omega) | skip
              first | have g2 : decide (2 < (s.size : Int)) = true := decide_eq_true (by omega) | have g2 : decide (2 < (s.size : Int)) = false := decide_eq_false (by omega) | skip
              first | have g3 : decide ((x1.toNat : Int) < 128) = true := decide_eq_true (by omega) | have g3 : decide ((x1.toNat : Int) < 128) = false := decide_eq_false (by omega) | skip
              first | have g4 : decide (143 < (x1.toNat : Int)) = true := decide_eq_true (by omega) | have g4 : decide (143 < (x1.toNat : Int)) = false := decide_eq_false (by omega) | skip
              first | have g5 : decide ((x2.toNat : Int) < 128) = true := decide_eq_true (by omega) | have g5 : decide ((x2.toNat : Int) < 128) = false := decide_eq_false (by omega) | skip
              first | have g6 : decide (191 < (x2.toNat : Int)) = true := decide_eq_true (by omega) | have g6 : decide (191 < (x2.toNat : Int)) = false := decide_eq_false (by omega) | skip
              go_enter Tryz.func158, Tryz.ntmps158
              go_wp2
              go_quiet (fail)
              go_wp2
              go_ret
              exact ⟨rfl, Jv.belowN ((Below.refl _ _).alloc (Nat.le_refl _) _) _⟩
      · rw [if_neg (by omega), if_neg (by omega)]
        first | have g1 : decide (1 < (s.size : Int)) = true := decide_eq_true (by omega) | have g1 : decide (1 < (s.size : Int)) = false := decide_eq_false (by omega) | skip
        first | have g2 : decide (2 < (s.size : Int)) = true := decide_eq_true (by omega) | have g2 : decide (2 < (s.size : Int)) = false := decide_eq_false (by omega) | skip
        first | have g3 : decide ((x1.toNat : Int) < 128) = true := decide_eq_true (by omega) | have g3 : decide ((x1.toNat : Int) < 128) = false := decide_eq_false (by omega) | skip
        first | have g4 : decide (143 < (x1.toNat : Int)) = true := decide_eq_true (by omega) | have g4 : decide (143 < (x1.toNat : Int)) = false := decide_eq_false (by omega) | skip
        first | have g5 : decide ((x2.toNat : Int) < 128) = true := decide_eq_true (by omega) | have g5 : decide ((x2.toNat : Int) < 128) = false := decide_eq_false (by omega) | skip
        first | have g6 : decide (191 < (x2.toNat : Int)) = true := decide_eq_true (by omega) | have g6 : decide (191 < (x2.toNat : Int)) = false := decide_eq_false (by omega) | skip
        go_enter Tryz.func158, Tryz.ntmps158
        go_wp2
        go_quiet (fail)
        go_wp2
        go_ret
        exact ⟨rfl, Jv.belowN ((Below.refl _ _).alloc (Nat.le_refl _) _) _⟩
end Go.Proofs
