/-
  The document's reader: Int, End, Fault, Many, NewReader.
-/
import Derived.Test.YtghpbagmpgphfaaWqB
import Derived.BigQuiet
namespace Go.Proofs
open Go.RowKit Go.Wi
set_option maxHeartbeats 1000000 in
theorem Try.xInt_any {w : World} {own : Nat → Prop} {x : Nat} {s : Rs} (h : Try.Xd w own x s) :
    Calls Try.prog 21 #[.pointer (some ⟨x, 0, none⟩)] w fun e w' => e = .returned (.int .i64 s.int.1) ∧ Try.XChg own w w' x s.int.2 := by
  have hc := Try.xCount_any h
  have hm := (s.cnt_in h.inn).2.2
  have HI1 : Hid (s.int.1 = unzig s.cnt.1) := rfl
  have HI2 : Hid (s.int.2 = s.cnt.2) := rfl
  clear h
  generalize s.cnt.1 = m at *
  by_cases h2 : m % 2 = 0
  · have HU : Hid (unzig m = ((m / 2 : Nat) : Int)) := if_pos h2
    have q : (m : Int) % 2 = 0 := by omega
    have e1 : IntKind.i64.wrap ((m : Int) / 2) = ((m / 2 : Nat) : Int) := by rw [IntKind.wrap_i64]; omega
    go_enter Try.func21, Try.ntmps21
    go_wp2_with (first | (go_at_call 34; refine hc.mono ?_; clear hc; rintro e2 w2 ⟨rfl, hx2⟩; have HX : Hid (Try.XChg own w w2 x s.cnt.2) := hx2; clear hx2) | fail)
    go_ret
    exact ⟨by rw [HI1.out, HU.out]; rfl, by rw [HI2.out]; exact HX.out⟩
  · have HU : Hid (unzig m = -((m / 2 : Nat) : Int) - 1) := if_neg h2
    have q : ¬ (m : Int) % 2 = 0 := by omega
    have e1 : IntKind.i64.wrap ((m : Int) / 2) = ((m / 2 : Nat) : Int) := by rw [IntKind.wrap_i64]; omega
    have e2 : IntKind.i64.wrap (-((m / 2 : Nat) : Int)) = -((m / 2 : Nat) : Int) := by rw [IntKind.wrap_i64]; omega
    have e3 : IntKind.i64.wrap (-((m / 2 : Nat) : Int) - 1) = -((m / 2 : Nat) : Int) - 1 := by rw [IntKind.wrap_i64]; omega
    go_enter Try.func21, Try.ntmps21
    go_wp2_with (first | (go_at_call 34; refine hc.mono ?_; clear hc; rintro e2 w2 ⟨rfl, hx2⟩; have HX : Hid (Try.XChg own w w2 x s.cnt.2) := hx2; clear hx2) | fail)
    go_ret
    exact ⟨by rw [HI1.out, HU.out]; rfl, by rw [HI2.out]; exact HX.out⟩
set_option maxHeartbeats 1000000 in
theorem Try.xEnd_any {w : World} {own : Nat → Prop} {x : Nat} {s : Rs} (h : Try.Xd w own x s) :
    Calls Try.prog 29 #[.pointer (some ⟨x, 0, none⟩)] w fun e w' => e = .returned (.bool s.fin) ∧ ∃ n, w' = w.drewN n := by
  obtain ⟨V, hx, hbs, -⟩ := h.ex
  obtain ⟨ad, cap, rfl, -, -, -⟩ := hbs.ex
  have c0 : w.cell? ⟨x, 0, none⟩ = some (.slice ad s.t.length cap) := cell_of_row w x 0 _ _ _ hx
  have c1 : w.cell? ⟨x, 1, none⟩ = some (.int .i64 (s.p : Int)) := cell_of_row w x 1 _ _ _ hx
  have c2 : w.cell? ⟨x, 2, none⟩ = some (.int .i64 (bad s.f)) := cell_of_row w x 2 _ _ _ hx
  clear h hx hbs
  obtain ⟨t, p, f⟩ := s
  simp only at c0 c1 c2
  cases f with
  | some a =>
    have c3 : w.cell? ⟨x, 2, none⟩ = some (.int .i64 (a : Int)) := c2
    have q : ¬ (a : Int) < 0 := by omega
    have q2 : decide ((a : Int) < 0) = false := decide_eq_false q
    have HF : Hid ((Rs.mk t p (some a)).fin = false) := rfl
    clear c2
    go_enter Try.func29, Try.ntmps29
    go_wp2
    all_goals go_quiet (fail)
    all_goals try go_wp2
    all_goals go_ret
    all_goals exact ⟨by rw [HF.out]; rfl, _, rfl⟩
  | none =>
    have c3 : w.cell? ⟨x, 2, none⟩ = some (.int .i64 (-1)) := c2
    have HF : Hid ((Rs.mk t p none).fin = (p == t.length)) := by show _ = _; simp [Rs.fin]
    clear c2
    generalize t.length = N at *
    by_cases he : p = N
    · subst he
      have HF2 : Hid ((Rs.mk t p none).fin = true) := HF.out.trans (by simp)
      go_enter Try.func29, Try.ntmps29
      go_wp2
      all_goals go_quiet (fail)
      all_goals try go_wp2
      all_goals go_ret
      all_goals exact ⟨by rw [HF2.out]; rfl, _, rfl⟩
    · have HF2 : Hid ((Rs.mk t p none).fin = false) := HF.out.trans (by simpa using he)
      have q1 : ((p : Int) == (N : Int)) = false := by simp only [beq_eq_false_iff_ne, ne_eq]; omega
      have q2 : ¬ (p : Int) = (N : Int) := by omega
      have q3 : (p == N) = false := by simpa using he
      have q4 : ¬ p = N := he
      go_enter Try.func29, Try.ntmps29
      go_wp2
      all_goals go_quiet (fail)
      all_goals try go_wp2
      all_goals go_ret
      all_goals exact ⟨by rw [HF2.out]; rfl, _, rfl⟩
set_option maxHeartbeats 1000000 in
theorem Try.xFault_any {w : World} {own : Nat → Prop} {x : Nat} {s : Rs} (h : Try.Xd w own x s) :
    Calls Try.prog 8 #[.pointer (some ⟨x, 0, none⟩)] w fun e w' => e = .returned (match s.f with | none => .tuple #[.int .i64 0, .int .i64 0] | some a => .tuple #[.int .i64 (a : Nat), .int .i64 60]) ∧ w' = w := by
  obtain ⟨V, hx, -⟩ := h.ex
  have c2 : w.cell? ⟨x, 2, none⟩ = some (.int .i64 (bad s.f)) := cell_of_row w x 2 _ _ _ hx
  clear h hx
  cases hf : s.f with
  | none =>
    rw [hf] at c2
    have c3 : w.cell? ⟨x, 2, none⟩ = some (.int .i64 (-1)) := c2
    clear c2
    go_enter Try.func8, Try.ntmps8
    go_wp2
    go_ret2
    exact ⟨rfl, rfl⟩
  | some a =>
    rw [hf] at c2
    have c3 : w.cell? ⟨x, 2, none⟩ = some (.int .i64 (a : Int)) := c2
    have q : ¬ (a : Int) < 0 := by omega
    clear c2
    go_enter Try.func8, Try.ntmps8
    go_wp2
    go_ret2
    exact ⟨rfl, rfl⟩
end Go.Proofs
