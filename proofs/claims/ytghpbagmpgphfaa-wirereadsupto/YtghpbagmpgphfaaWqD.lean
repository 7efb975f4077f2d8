/-
  The document's reader: Flag, Text, Many, NewReader.
-/
import Derived.Test.YtghpbagmpgphfaaWqC
import Derived.Deep.DeepCutAuto
namespace Go.Proofs
open Go.RowKit Go.Wi
set_option maxHeartbeats 2000000 in
theorem Try.xFlag_any {w : World} {own : Nat → Prop} {x : Nat} {s : Rs} (h : Try.Xd w own x s) :
    Calls Try.prog 22 #[.pointer (some ⟨x, 0, none⟩)] w fun e w' => e = .returned (.bool s.flag.1) ∧ Try.XChg own w w' x s.flag.2 := by
  obtain ⟨V, hx, hbs, hVx, -⟩ := h.ex
  obtain ⟨ad, cap, rfl, -, -, hat⟩ := hbs.ex
  have c0 : w.cell? ⟨x, 0, none⟩ = some (.slice ad s.t.length cap) := cell_of_row w x 0 _ _ _ hx
  have c1 : w.cell? ⟨x, 1, none⟩ = some (.int .i64 (s.p : Int)) := cell_of_row w x 1 _ _ _ hx
  have c2 : w.cell? ⟨x, 2, none⟩ = some (.int .i64 (bad s.f)) := cell_of_row w x 2 _ _ _ hx
  have f1 : w.frozen? ⟨x, 1, none⟩ = false := frozen_of_row w x 1 _ _ hx
  have hin := h.inn
  have hlen := h.len
  obtain ⟨t, p, f⟩ := s
  unfold Rs.In at hin
  simp only at c0 c1 c2 hin hlen hat
  cases f with
  | some a =>
    have c3 : w.cell? ⟨x, 2, none⟩ = some (.int .i64 (a : Int)) := c2
    have q : (0 : Int) ≤ (a : Int) := by omega
    have H : Hid (Try.Xd w own x ⟨t, p, some a⟩) := h
    clear h hx hbs c2 hat
    go_enter Try.func22, Try.ntmps22
    go_wp2
    go_ret
    exact ⟨rfl, Try.XChg.refl H.out⟩
  | none =>
    have c3 : w.cell? ⟨x, 2, none⟩ = some (.int .i64 (-1)) := c2
    have H : Hid (Try.Xd w own x ⟨t, p, none⟩) := h
    have hx1 : ∀ n, Calls Try.prog 35 #[.pointer (some ⟨x, 0, none⟩), .int .i64 (p : Int)] (w.drewN n) fun e w' => (∃ v, e = .returned v) ∧ Try.XChg own (w.drewN n) w' x ⟨t, p, some p⟩ := fun n => Try.xFails_any (h.drewN n) p
    by_cases hlt : p < t.length
    · obtain ⟨g, o, rfl, cb⟩ : ∃ g o, ad = some ⟨g, o, none⟩ ∧ w.cell? ⟨g, o + p, none⟩ = some (.int .u8 (t[p].toNat : Nat)) := by
        rcases hat with e | ⟨g, o, e, hg, hc⟩
        · rw [e] at hlt; simp at hlt
        · exact ⟨g, o, e, hc p _ (byteCell hlt)⟩
      have HFL : Hid ((Rs.mk t p none).flag = if t[p].toNat ≤ 1 then (t[p].toNat == 1, ⟨t, p + 1, none⟩) else (false, ⟨t, p, some p⟩)) := dif_pos hlt
      obtain ⟨b, hb⟩ : ∃ b, b = t[p].toNat := ⟨_, rfl⟩
      rw [← hb] at cb HFL
      obtain ⟨N, hN⟩ : ∃ N, N = t.length := ⟨_, rfl⟩
      rw [← hN] at hlt hin hlen c0
      have HN : Hid (N = t.length) := hN
      have hb9 : b < 256 := by rw [hb]; exact t[p].toNat_lt
      clear hN hb h hx hbs c2 hat
      have q1 : ¬ (N : Int) ≤ (p : Int) := by omega
      have q2 : decide ((N : Int) ≤ (p : Int)) = false := decide_eq_false q1
      have q3 : decide (N ≤ p) = false := decide_eq_false (by omega)
      have q4 : (p : Int) < (N : Int) := by omega
      by_cases hb1 : b ≤ 1
      · have HFL2 : Hid ((Rs.mk t p none).flag = (b == 1, ⟨t, p + 1, none⟩)) := HFL.out.trans (if_pos hb1)
        have q5 : ¬ (1 : Int) < (b : Int) := by omega
        have q6 : decide ((1 : Int) < (b : Int)) = false := decide_eq_false q5
        have q7 : decide (1 < b) = false := decide_eq_false (by omega)
        have e1 : IntKind.i64.wrap ((p : Int) + 1) = (p : Int) + 1 := by rw [IntKind.wrap_i64]; omega
        have e2 : IntKind.i64.wrap ((p : Int) + 1 - 1) = (p : Int) := by rw [IntKind.wrap_i64]; omega
        have hgx : g ≠ x := fun e => hVx (by rw [← e]; rfl)
        have HP : Hid (∀ n, Try.XChg own w ((w.drewN n).setCell ⟨x, 1, none⟩ (.int .i64 ((p : Int) + 1))) x ⟨t, p + 1, none⟩) := fun n => by
          have h1 := (H.out.drewN n).setP (p + 1) ((p : Int) + 1) (by omega) (by show p + 1 ≤ t.length; have := HN.out; omega)
          exact ((Try.XChg.refl H.out).drewN n).trans h1
        have HD : Hid (∀ n, ((w.drewN n).setCell ⟨x, 1, none⟩ (.int .i64 ((p : Int) + 1))).cell? ⟨x, 0, none⟩ = some (.slice (some ⟨g, o, none⟩) N cap) ∧ ((w.drewN n).setCell ⟨x, 1, none⟩ (.int .i64 ((p : Int) + 1))).cell? ⟨x, 1, none⟩ = some (.int .i64 ((p : Int) + 1)) ∧ ((w.drewN n).setCell ⟨x, 1, none⟩ (.int .i64 ((p : Int) + 1))).cell? ⟨g, o + p, none⟩ = some (.int .u8 (b : Int))) := fun n =>
          ⟨(World.cell?_setCell_other _ _ _ _ (fun e => by injection e with e1 e2; omega)).trans c0, World.cell?_setCell_same _ _ _ c1, (World.cell?_setCell_other _ _ _ _ (fun e => by injection e with e1 e2; exact hgx e1.symm)).trans cb⟩
        clear hx1 hVx
        rcases (by omega : b = 0 ∨ b = 1) with rfl | rfl
        all_goals
          go_enter Try.func22, Try.ntmps22
          go_wp2
          go_quiet (fail)
          go_upto_region 7 with (fail)
          obtain ⟨d0, d1, d2⟩ := HD.out nq
          have HP2 := HP.out nq
          generalize (w.drewN nq).setCell ⟨x, 1, none⟩ (.int .i64 ((p : Int) + 1)) = W2 at *
          have HP3 : Hid (Try.XChg own w W2 x ⟨t, p + 1, none⟩) := HP2
          clear HP2
          go_quiet (fail)
          go_wp2
          go_ret
          exact ⟨by rw [HFL2.out]; rfl, by rw [HFL2.out]; exact HP3.out.drewN _⟩
      · have HFL2 : Hid ((Rs.mk t p none).flag = (false, ⟨t, p, some p⟩)) := HFL.out.trans (if_neg hb1)
        have q5 : (1 : Int) < (b : Int) := by omega
        have q6 : decide ((1 : Int) < (b : Int)) = true := decide_eq_true q5
        have q7 : decide (1 < b) = true := decide_eq_true (by omega)
        clear hVx
        go_enter Try.func22, Try.ntmps22
        go_wp2
        go_quiet (fail)
        go_wp2_with (first | (go_at_call 35; refine (hx1 _).mono ?_; rintro e2 w2 ⟨⟨v2, rfl⟩, hc2⟩; have HC2 : Hid (Try.XChg own w w2 x ⟨t, p, some p⟩) := ((Try.XChg.refl H.out).drewN _).trans hc2; clear hc2) | fail)
        go_ret
        exact ⟨by rw [HFL2.out]; rfl, by rw [HFL2.out]; exact HC2.out⟩
    · have HFL2 : Hid ((Rs.mk t p none).flag = (false, ⟨t, p, some p⟩)) := dif_neg hlt
      have q1 : (t.length : Int) ≤ (p : Int) := by omega
      have q2 : decide ((t.length : Int) ≤ (p : Int)) = true := decide_eq_true q1
      have q3 : decide (t.length ≤ p) = true := decide_eq_true (by omega)
      clear h hx hbs c2 hat hVx
      go_enter Try.func22, Try.ntmps22
      go_wp2
      go_quiet (fail)
      go_wp2_with (first | (go_at_call 35; refine (hx1 _).mono ?_; rintro e2 w2 ⟨⟨v2, rfl⟩, hc2⟩; have HC2 : Hid (Try.XChg own w w2 x ⟨t, p, some p⟩) := ((Try.XChg.refl H.out).drewN _).trans hc2; clear hc2) | fail)
      go_ret
      exact ⟨by rw [HFL2.out]; rfl, by rw [HFL2.out]; exact HC2.out⟩
end Go.Proofs
