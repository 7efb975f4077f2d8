/-
  Laid together by packg.py of Xn.
-/
import Derived.Test.YtjiidkkmnlcpcaaGreatDoorPaE
import Derived.Test.YtjiidkkmnlcpcaaGreatDoorShelf
namespace Go.Wb
theorem marks_index : ∀ n, n < 256 → decide (0 ≤ Lib.indexByte marks (UInt8.ofNat n)) = marks.contains (UInt8.ofNat n) := by decide +kernel
theorem marks_is (c : UInt8) : decide (0 ≤ Lib.indexByte marks c) = marks.contains c := by
  have h := marks_index c.toNat c.toNat_lt
  rwa [UInt8.ofNat_toNat] at h
end Go.Wb
namespace Go.Proofs
open Go.RowKit Go.Wi Go.Wb
theorem Tryz.indexMarks (c : UInt8) (w : World) : Calls Tryz.prog 99 #[.string ⟨#[33, 35, 36, 37, 38, 39, 42, 43, 45, 46, 94, 95, 96, 124, 126]⟩, .int .u8 c.toNat] w fun e w' => e = .returned (.int .i64 (Lib.indexByte marks c)) ∧ w' = w := by
  refine (Tryz.strings_IndexByte ⟨#[33, 35, 36, 37, 38, 39, 42, 43, 45, 46, 94, 95, 96, 124, 126]⟩ (c.toNat : Int) w).mono fun e w' ⟨h1, h2⟩ => ⟨?_, h2⟩
  rw [h1]
  have : ((c.toNat : Int).toNat).toUInt8 = c := by
    rw [Int.toNat_natCast]; exact UInt8.ofNat_toNat
  rw [this]
  rfl
set_option maxHeartbeats 1000000 in
set_option maxRecDepth 20000 in
theorem Tryz.isTokenByte_any (c : UInt8) (w : World) : Calls Tryz.prog 82 #[.int .u8 c.toNat] w fun e w' => e = .returned (.bool (tok c)) ∧ w' = w := by
  have kd := Tryz.isDigit_any c w
  have kg := Tryz.isGreat_any c w
  have ki := Tryz.indexMarks c w
  have hm := marks_is c
  have hd : tok c = (dig c || great c || (decide (97 ≤ c.toNat) && decide (c.toNat ≤ 122)) || marks.contains c) := rfl
  rw [hd, ← hm]
  clear hd hm
  generalize Lib.indexByte marks c = I at *
  generalize great c = G at *
  generalize dig c = D at *
  generalize c.toNat = n at *
  cases D with
  | true =>
    rw [Bool.true_or, Bool.true_or, Bool.true_or]
    clear kg ki
    go_enter Tryz.func82, Tryz.ntmps82
    go_wp2_with (first | (go_at_call 57; refine kd.mono ?_; clear kd; rintro e w1 ⟨rfl, rfl⟩) | fail)
    go_ret
    exact ⟨rfl, rfl⟩
  | false =>
    rw [Bool.false_or]
    cases G with
    | true =>
      rw [Bool.true_or, Bool.true_or]
      clear ki
      go_enter Tryz.func82, Tryz.ntmps82
      go_wp2_with (first | (go_at_call 57; refine kd.mono ?_; clear kd; rintro e w1 ⟨rfl, rfl⟩) | (go_at_call 98; refine kg.mono ?_; clear kg; rintro e w1 ⟨rfl, rfl⟩) | fail)
      go_ret
      exact ⟨rfl, rfl⟩
    | false =>
      rw [Bool.false_or]
      by_cases h1 : 97 ≤ n
      · have q1 : (97 : Int) ≤ (n : Int) := by omega
        rw [decide_eq_true h1, Bool.true_and]
        by_cases h2 : n ≤ 122
        · have q2 : (n : Int) ≤ 122 := by omega
          rw [decide_eq_true h2, Bool.true_or]
          clear ki h1 h2
          go_enter Tryz.func82, Tryz.ntmps82
          go_wp2_with (first | (go_at_call 57; refine kd.mono ?_; clear kd; rintro e w1 ⟨rfl, rfl⟩) | (go_at_call 98; refine kg.mono ?_; clear kg; rintro e w1 ⟨rfl, rfl⟩) | fail)
          go_ret
          exact ⟨rfl, rfl⟩
        · have q2 : ¬ (n : Int) ≤ 122 := by omega
          rw [decide_eq_false h2, Bool.false_or]
          clear h1 h2
          go_enter Tryz.func82, Tryz.ntmps82
          go_wp2_with (first | (go_at_call 57; refine kd.mono ?_; clear kd; rintro e w1 ⟨rfl, rfl⟩) | (go_at_call 98; refine kg.mono ?_; clear kg; rintro e w1 ⟨rfl, rfl⟩) | (go_at_call 99; refine ki.mono ?_; clear ki; rintro e w1 ⟨rfl, rfl⟩) | fail)
          go_ret
          exact ⟨by rw [show decide ((n : Int) ≤ 122) = false from decide_eq_false (by omega)]; rfl, rfl⟩
      · have q1 : ¬ (97 : Int) ≤ (n : Int) := by omega
        rw [decide_eq_false h1, Bool.false_and, Bool.false_or]
        clear h1
        go_enter Tryz.func82, Tryz.ntmps82
        go_wp2_with (first | (go_at_call 57; refine kd.mono ?_; clear kd; rintro e w1 ⟨rfl, rfl⟩) | (go_at_call 98; refine kg.mono ?_; clear kg; rintro e w1 ⟨rfl, rfl⟩) | (go_at_call 99; refine ki.mono ?_; clear ki; rintro e w1 ⟨rfl, rfl⟩) | fail)
        go_ret
        exact ⟨rfl, rfl⟩
end Go.Proofs
