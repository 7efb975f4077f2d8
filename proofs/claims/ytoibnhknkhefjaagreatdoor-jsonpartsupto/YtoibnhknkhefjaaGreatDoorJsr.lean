/-
  The document's 'Sequence': how long the sequence is with which a text begins.
-/
import Derived.Test.YtoibnhknkhefjaaGreatDoorJsq
namespace Go.Proofs
open Go.RowKit Go.Jv
/-- What 'Sequence' leaves. -/
def Tryz.SqOk (n : Nat) (w : World) (en : Ending) (w' : World) : Prop := ∃ b, en = .returned (.tuple #[.int .i64 n, .bool b]) ∧ w' = w
set_option maxRecDepth 100000 in
set_option maxHeartbeats 8000000 in
theorem Tryz.sequence_any (u : ByteArray) (h0 : 0 < u.size) (hs : u.size ≤ 140737488355328) (w : World) :
    Calls Tryz.prog 31 #[.string u] w fun en w' => Tryz.SqOk (sqn u) w en w' := by
  have hg := Jv.get_eq u 0 h0
  have q0 : (0 : Int) < (u.size : Int) := by omega
  have hne : u.toList.isEmpty = false := by
    rw [Lib.toList_data]
    cases h : u.data.toList with
    | nil => exact absurd h0 (by rw [Lib.size_eq, h]; simp)
    | cons _ _ => rfl
  have hbl : (u.get! 0).toNat < 256 := UInt8.toNat_lt _
  by_cases c128 : (u.get! 0).toNat < 128
  · have HS : Hid _ := sq_ascii c128
    generalize u.get! 0 = c at *
    have hwc : wrap64 (c.toNat : Int) = (c.toNat : Int) := by unfold wrap64; omega
    have b128 : (c.toNat : Int) < 128 := by omega
    go_enter Tryz.func31, Tryz.ntmps31
    go_wp2
    go_ret2
    exact ⟨_, by rw [HS.out]; rfl, rfl⟩
  · by_cases hout : (u.get! 0).toNat < 194 ∨ 244 < (u.get! 0).toNat
    · have HS : Hid _ := sq_other (by omega) hout
      generalize u.get! 0 = c at *
      have hwc : wrap64 (c.toNat : Int) = (c.toNat : Int) := by unfold wrap64; omega
      have b128 : ¬ (c.toNat : Int) < 128 := by omega
      have b223 : (194 : Int) ≤ (c.toNat : Int) → ¬ (c.toNat : Int) ≤ 223 := by omega
      by_cases b194 : (194 : Int) ≤ (c.toNat : Int)
      · have f223 : ¬ (c.toNat : Int) ≤ 223 := by omega
        have f224 : (224 : Int) ≤ (c.toNat : Int) := by omega
        have f239 : ¬ (c.toNat : Int) ≤ 239 := by omega
        have f240 : (240 : Int) ≤ (c.toNat : Int) := by omega
        have f244 : ¬ (c.toNat : Int) ≤ 244 := by omega
        clear b223 hout
        go_enter Tryz.func31, Tryz.ntmps31
        go_wp2
        go_ret2
        exact ⟨_, by rw [HS.out]; rfl, rfl⟩
      · have f224 : ¬ (224 : Int) ≤ (c.toNat : Int) := by omega
        have f240 : ¬ (240 : Int) ≤ (c.toNat : Int) := by omega
        clear b223 hout
        go_enter Tryz.func31, Tryz.ntmps31
        go_wp2
        go_ret2
        exact ⟨_, by rw [HS.out]; rfl, rfl⟩
    · have hI : SqI u 1 := ⟨by omega, by omega, by omega, by have := sqL_bound (u.get! 0).toNat; omega, by omega, fun j _ _ => by omega⟩
      have HI : Hid _ := hI
      have hall : ∀ k, SqI u k → (k < sqL (u.get! 0).toNat → k = u.size → sqn u = 0) ∧ (k < sqL (u.get! 0).toNat → ¬ (sqLo2 (u.get! 0).toNat k ≤ (u.get! k).toNat ∧ (u.get! k).toNat ≤ sqHi2 (u.get! 0).toNat k) → sqn u = 0) ∧ (k < sqL (u.get! 0).toNat → k < u.size → (sqLo2 (u.get! 0).toNat k ≤ (u.get! k).toNat ∧ (u.get! k).toNat ≤ sqHi2 (u.get! 0).toNat k) → SqI u (k + 1)) ∧ (¬ k < sqL (u.get! 0).toNat → sqn u = sqL (u.get! 0).toNat) ∧ 1 ≤ k ∧ k ≤ u.size :=
        fun k hk => ⟨fun h1 h2 => sq_short hk h1 h2, fun h1 h2 => sq_wrong hk h1 (fun h => h2 ((sqB_iff _ _ _).1 h)), fun h1 h2 h3 => hk.next h1 h2 ((sqB_iff _ _ _).2 h3), fun h1 => sq_done hk (by have := hk.most; omega), hk.one, hk.size⟩
      have HA : Hid _ := hall
      clear hall hI
      have hcls : ((u.get! 0).toNat ≤ 223 ∧ sqL (u.get! 0).toNat = 2 ∧ sqLo (u.get! 0).toNat = 128 ∧ sqHi (u.get! 0).toNat = 191) ∨ ((u.get! 0).toNat = 224 ∧ sqL (u.get! 0).toNat = 3 ∧ sqLo (u.get! 0).toNat = 160 ∧ sqHi (u.get! 0).toNat = 191) ∨ ((225 ≤ (u.get! 0).toNat ∧ (u.get! 0).toNat ≤ 239 ∧ ¬ (u.get! 0).toNat = 237) ∧ sqL (u.get! 0).toNat = 3 ∧ sqLo (u.get! 0).toNat = 128 ∧ sqHi (u.get! 0).toNat = 191) ∨ ((u.get! 0).toNat = 237 ∧ sqL (u.get! 0).toNat = 3 ∧ sqLo (u.get! 0).toNat = 128 ∧ sqHi (u.get! 0).toNat = 159) ∨ ((u.get! 0).toNat = 240 ∧ sqL (u.get! 0).toNat = 4 ∧ sqLo (u.get! 0).toNat = 144 ∧ sqHi (u.get! 0).toNat = 191) ∨ ((241 ≤ (u.get! 0).toNat ∧ (u.get! 0).toNat ≤ 243) ∧ sqL (u.get! 0).toNat = 4 ∧ sqLo (u.get! 0).toNat = 128 ∧ sqHi (u.get! 0).toNat = 191) ∨ ((u.get! 0).toNat = 244 ∧ sqL (u.get! 0).toNat = 4 ∧ sqLo (u.get! 0).toNat = 128 ∧ sqHi (u.get! 0).toNat = 143) := by
        unfold sqL sqLo sqHi
        repeat' split
        all_goals omega
      have HG : Hid (∀ k : Nat, (hk : k < u.size) → u[k] = u.get! k) := fun k hk => Jv.get_eq u k hk
      generalize u.get! 0 = c at *
      have hwc : wrap64 (c.toNat : Int) = (c.toNat : Int) := by unfold wrap64; omega
      have b128 : ¬ (c.toNat : Int) < 128 := by omega
      have b194 : (194 : Int) ≤ (c.toNat : Int) := by omega
      have b244 : (c.toNat : Int) ≤ 244 := by omega
      generalize hL : sqL c.toNat = L at *
      clear hL
      have HD : Hid (∀ k : Nat, k < L ∨ ¬ k < L) := fun k => by omega
      rcases hcls with ⟨hc, rfl, hlo, hhi⟩ | ⟨hc, rfl, hlo, hhi⟩ | ⟨hc, rfl, hlo, hhi⟩ | ⟨hc, rfl, hlo, hhi⟩ | ⟨hc, rfl, hlo, hhi⟩ | ⟨hc, rfl, hlo, hhi⟩ | ⟨hc, rfl, hlo, hhi⟩
      all_goals
        first | (have f223 : (c.toNat : Int) ≤ 223 := by omega) | (have f223 : ¬ (c.toNat : Int) ≤ 223 := by omega)
        first | (have f224 : (224 : Int) ≤ (c.toNat : Int) := by omega) | (have f224 : ¬ (224 : Int) ≤ (c.toNat : Int) := by omega)
        first | (have f239 : (c.toNat : Int) ≤ 239 := by omega) | (have f239 : ¬ (c.toNat : Int) ≤ 239 := by omega)
        first | (have f240 : (240 : Int) ≤ (c.toNat : Int) := by omega) | (have f240 : ¬ (240 : Int) ≤ (c.toNat : Int) := by omega)
        first | (have e224 : (c.toNat : Int) = 224 := by omega) | (have e224 : ¬ (c.toNat : Int) = 224 := by omega)
        first | (have e237 : (c.toNat : Int) = 237 := by omega) | (have e237 : ¬ (c.toNat : Int) = 237 := by omega)
        first | (have e240 : (c.toNat : Int) = 240 := by omega) | (have e240 : ¬ (c.toNat : Int) = 240 := by omega)
        first | (have e244 : (c.toNat : Int) = 244 := by omega) | (have e244 : ¬ (c.toNat : Int) = 244 := by omega)
        go_enter Tryz.func31, Tryz.ntmps31
        go_wp2
        go_loopw [6, 7, 8] (fun lo hi i wr => ∃ k : Nat, i = .int .i64 k ∧ lo = .int .i64 (sqLo2 c.toNat k : Nat) ∧ hi = .int .i64 (sqHi2 c.toNat k : Nat) ∧ SqI u k ∧ wr = w) (fun _ _ i _ => u.size - (intOf i).toNat)
        case atStart => exact ⟨1, rfl, by simp [sqLo2, hlo], by simp [sqHi2, hhi], HI.out, rfl⟩
        case round =>
          obtain ⟨k, rfl, rfl, rfl, hk, rfl⟩ := hrel
          obtain ⟨k1, k2, k3, k4, k5, k6⟩ := HA.out k hk
          have e1 : sqLo2 c.toNat (k + 1) = 128 := by unfold sqLo2; rw [if_neg (by omega)]
          have e2 : sqHi2 c.toNat (k + 1) = 191 := by unfold sqHi2; rw [if_neg (by omega)]
          have E1 : Hid _ := e1
          have E2 : Hid _ := e2
          clear e1 e2
          rcases HD.out k with d1 | d1
          · first | (have d2 : (k : Int) < 2 := by omega) | (have d2 : (k : Int) < 3 := by omega) | (have d2 : (k : Int) < 4 := by omega)
            by_cases hks : k = u.size
            · have d3 : (k : Int) = (u.size : Int) := by omega
              have HS : Hid _ := k1 d1 hks
              clear k1 k2 k3 k4
              go_wp2
              go_ret2
              exact ⟨_, by rw [HS.out]; rfl, rfl⟩
            · have d3 : ¬ (k : Int) = (u.size : Int) := by omega
              have d4 : (k : Int) < (u.size : Int) := by omega
              have hgk := HG.out k (by omega)
              have hdl : (u.get! k).toNat < 256 := UInt8.toNat_lt _
              generalize u.get! k = d at *
              have hwd : wrap64 (d.toNat : Int) = (d.toNat : Int) := by unfold wrap64; omega
              generalize hx1 : sqLo2 c.toNat k = x1 at *
              generalize hx2 : sqHi2 c.toNat k = x2 at *
              clear hx1 hx2
              by_cases hl : x1 ≤ d.toNat
              · have dl : ¬ (d.toNat : Int) < (x1 : Int) := by omega
                by_cases hh : d.toNat ≤ x2
                · have HN : Hid _ := k3 d1 (by omega) ⟨hl, hh⟩
                  have dh : ¬ (x2 : Int) < (d.toNat : Int) := by omega
                  clear k1 k2 k3 k4
                  go_wp2
                  go_roundw
                  case rel => exact ⟨k + 1, by go_num, by rw [E1.out]; rfl, by rw [E2.out]; rfl, HN.out, by trivial⟩
                  case measure => simp [intOf]; omega
                · have dh : (x2 : Int) < (d.toNat : Int) := by omega
                  have HS : Hid _ := k2 d1 (fun h => hh h.2)
                  clear k1 k2 k3 k4
                  go_wp2
                  go_ret2
                  exact ⟨_, by rw [HS.out]; rfl, rfl⟩
              · have dl : (d.toNat : Int) < (x1 : Int) := by omega
                have HS : Hid _ := k2 d1 (fun h => hl h.1)
                clear k1 k2 k3 k4
                go_wp2
                go_ret2
                exact ⟨_, by rw [HS.out]; rfl, rfl⟩
          · first | (have d2 : ¬ (k : Int) < 4 := by omega) | (have d2 : ¬ (k : Int) < 3 := by omega) | (have d2 : ¬ (k : Int) < 2 := by omega)
            have HS : Hid _ := k4 d1
            clear k1 k2 k3 k4
            go_wp2
            go_ret2
            exact ⟨_, by rw [HS.out]; rfl, rfl⟩
end Go.Proofs
