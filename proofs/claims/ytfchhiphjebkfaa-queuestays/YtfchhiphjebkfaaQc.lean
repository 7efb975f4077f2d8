/-
  within, oneMore.
-/
import Derived.Test.YtfchhiphjebkfaaQa
namespace Go.Proofs
open Go.RowKit Go.Wi Go.Qu
theorem Qu.results4 {fn : Func} {t u v x : Tmp} (h : fn.results = #[.tmp t, .tmp u, .tmp v, .tmp x]) (tmps : Array Value) (P : Program) (w : World) :
    (results fn tmps).run P w = .ok (.tuple #[tmps.getD t undef, tmps.getD u undef, tmps.getD v undef, tmps.getD x undef]) w := by
  simp [results, h]
set_option maxHeartbeats 1000000 in
theorem Try.within_any (n a c : Int) (w : World) : Calls Try.prog 21 #[.int .i64 n, .int .i64 a, .int .i64 c] w fun e w' => e = .returned (.bool (decide (a ≤ n ∧ n ≤ c))) ∧ w' = w := by
  by_cases h1 : a ≤ n
  · by_cases h2 : n ≤ c
    · go_enter Try.func21, Try.ntmps21
      go_wp2
      go_ret
      exact ⟨by simp [h1, h2], rfl⟩
    · go_enter Try.func21, Try.ntmps21
      go_wp2
      go_ret
      exact ⟨by simp [h2], rfl⟩
  · go_enter Try.func21, Try.ntmps21
    go_wp2
    go_ret
    exact ⟨by rw [decide_eq_false (show ¬ a ≤ n by omega)]; rfl, rfl⟩
theorem Try.within_yes {n a c : Int} (h1 : a ≤ n) (h2 : n ≤ c) (w : World) : Calls Try.prog 21 #[.int .i64 n, .int .i64 a, .int .i64 c] w fun e w' => e = .returned (.bool true) ∧ w' = w := by
  have := Try.within_any n a c w
  rwa [decide_eq_true ⟨h1, h2⟩] at this
theorem Try.within_no {n a c : Int} (h : ¬ (a ≤ n ∧ n ≤ c)) (w : World) : Calls Try.prog 21 #[.int .i64 n, .int .i64 a, .int .i64 c] w fun e w' => e = .returned (.bool false) ∧ w' = w := by
  have := Try.within_any n a c w
  rwa [decide_eq_false h] at this
set_option maxHeartbeats 1000000 in
theorem Try.oneMore_any (n : Int) (h1 : 0 ≤ n) (h2 : n ≤ 1000000000) (w : World) : Calls Try.prog 23 #[.int .i64 n] w fun e w' => e = .returned (.int .i64 (one n)) ∧ w' = w := by
  by_cases h : n + 1 ≤ 1000000000
  · have e : one n = n + 1 := by unfold one; omega
    rw [e]
    clear e
    go_enter Try.func23, Try.ntmps23
    go_wp2
    go_ret
    exact ⟨rfl, rfl⟩
  · have e : one n = 1000000000 := by unfold one; omega
    rw [e]
    clear e
    go_enter Try.func23, Try.ntmps23
    go_wp2
    go_ret
    exact ⟨rfl, rfl⟩
end Go.Proofs
