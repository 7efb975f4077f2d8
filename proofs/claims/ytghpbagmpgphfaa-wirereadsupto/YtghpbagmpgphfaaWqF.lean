/-
  The document's reader: Text.
-/
import Derived.Test.YtghpbagmpgphfaaWqE
import Derived.Deep.DeepCutAuto
namespace Go.Proofs
open Go.RowKit Go.Wi
set_option maxHeartbeats 2000000 in
theorem Try.xText_any {w : World} {own : Nat → Prop} {x : Nat} {s : Rs} (h : Try.Xd w own x s) :
    Calls Try.prog 23 #[.pointer (some ⟨x, 0, none⟩)] w fun e w' => e = .returned (.string ⟨s.text.1.toArray⟩) ∧ Try.XChg own w w' x s.text.2 := by
  have hc := Try.xCount_any h
  obtain ⟨hin, ht, hlt⟩ := s.cnt_in h.inn
  have hb := Wi.cnt_bad s
  have Ht : Hid (s.text = if s.cnt.2.t.length - s.cnt.2.p < s.cnt.1 then ([], s.cnt.2.fail s.cnt.2.p) else ((s.cnt.2.t.drop s.cnt.2.p).take s.cnt.1, { s.cnt.2 with p := s.cnt.2.p + s.cnt.1 })) := rfl
  have hlen := h.len
  generalize s.text = M at *
  generalize s.cnt = c at *
  obtain ⟨n, t, p, f⟩ := c
  simp only at hc hin ht hlt Ht hb
  unfold Rs.In at hin
  simp only at hin
  rw [← ht] at hlen
  clear h ht
  cases f with
  | some a =>
    have hn0 : n = 0 := hb a rfl
    subst hn0
    have HM : Hid (M = ([], ⟨t, p, some a⟩)) := by
      show M = _
      rw [Ht.out, if_neg (by omega)]
      rfl
    have q : (0 : Int) ≤ (a : Int) := by omega
    clear hb Ht hin hlen hlt
    go_enter Try.func23, Try.ntmps23
    go_wp2_with (first
      | (go_at_call 34; refine hc.mono ?_; clear hc; rintro e2 w2 ⟨rfl, hx2⟩; have HX : Hid (Try.XChg own w w2 x ⟨t, p, some a⟩) := hx2; have d2 : w2.cell? ⟨x, 2, none⟩ = some (.int .i64 (a : Int)) := (by obtain ⟨V, k1, -⟩ := hx2.rd.ex; exact cell_of_row w2 x 2 _ _ _ k1); clear hx2)
      | fail)
    go_ret
    exact ⟨by rw [HM.out]; rfl, by rw [HM.out]; exact HX.out⟩
  | none =>
    clear hb
    obtain ⟨N, hN⟩ : ∃ N, N = t.length := ⟨_, rfl⟩
    rw [← hN] at hin hlen Ht
    have HN : Hid (N = t.length) := hN
    have e1 : IntKind.i64.wrap ((N : Int) - (p : Int)) = (N : Int) - (p : Int) := by rw [IntKind.wrap_i64]; omega
    have e2 : IntKind.u64.wrap ((N : Int) - (p : Int)) = (N : Int) - (p : Int) := by rw [IntKind.wrap_u64]; omega
    by_cases hlow : N - p < n
    · have HM : Hid (M = ([], ⟨t, p, some p⟩)) := Ht.out.trans (if_pos hlow)
      have q1 : (N : Int) - (p : Int) < (n : Int) := by omega
      have q2 : decide ((N : Int) - (p : Int) < (n : Int)) = true := decide_eq_true q1
      clear Ht hN hlow
      go_enter Try.func23, Try.ntmps23
      go_upto_region 4 with (first
        | (go_at_call 34; refine hc.mono ?_; clear hc; rintro ee2 w2 ⟨rfl, hx2⟩; have HX : Hid (Try.XChg own w w2 x ⟨t, p, none⟩) := hx2; obtain ⟨V, k1, hbs, hVx, -⟩ := hx2.rd.ex; obtain ⟨ad, cap, rfl, hcap, hnn, hat⟩ := hbs.ex; have c0 : w2.cell? ⟨x, 0, none⟩ = some (.slice ad N cap) := (by rw [HN.out]; exact cell_of_row w2 x 0 _ _ _ k1); have c1 : w2.cell? ⟨x, 1, none⟩ = some (.int .i64 (p : Int)) := cell_of_row w2 x 1 _ _ _ k1; have c2 : w2.cell? ⟨x, 2, none⟩ = some (.int .i64 (-1)) := cell_of_row w2 x 2 _ _ _ k1; have hf2 := fun k => Try.xFails_any (hx2.rd.drewN k) p; clear k1 hbs hx2 hVx hcap hnn hat)
        | fail)
      go_quiet (fail)
      go_wp2_with (first
        | (go_at_call 35; refine (hf2 _).mono ?_; clear hf2; rintro ee3 w3 ⟨⟨v3, rfl⟩, hx3⟩; have HX3 : Hid (Try.XChg own w w3 x ⟨t, p, some p⟩) := (HX.out.drewN _).trans hx3; clear hx3)
        | fail)
      go_ret
      exact ⟨by rw [HM.out]; rfl, by rw [HM.out]; exact HX3.out⟩
    · have HM : Hid (M = ((t.drop p).take n, ⟨t, p + n, none⟩)) := Ht.out.trans (if_neg hlow)
      have q1 : ¬ (N : Int) - (p : Int) < (n : Int) := by omega
      have q2 : decide ((N : Int) - (p : Int) < (n : Int)) = false := decide_eq_false q1
      have e3 : IntKind.i64.wrap (n : Int) = (n : Int) := by rw [IntKind.wrap_i64]; omega
      have e4 : IntKind.i64.wrap ((p : Int) + (n : Int)) = (p : Int) + (n : Int) := by rw [IntKind.wrap_i64]; omega
      have q3 : (p : Int) ≤ (p : Int) + (n : Int) := by omega
      have q5 : n ≤ N - p := by omega
      clear Ht hN hlow
      go_enter Try.func23, Try.ntmps23
      go_upto_region 4 with (first
        | (go_at_call 34; refine hc.mono ?_; clear hc; rintro ee2 w2 ⟨rfl, hx2⟩; have HX : Hid (Try.XChg own w w2 x ⟨t, p, none⟩) := hx2; obtain ⟨V, k1, hbs, hVx, -⟩ := hx2.rd.ex; obtain ⟨ad, cap, rfl, hcap, hnn, hat⟩ := hbs.ex; have c0 : w2.cell? ⟨x, 0, none⟩ = some (.slice ad N cap) := (by rw [HN.out]; exact cell_of_row w2 x 0 _ _ _ k1); have c1 : w2.cell? ⟨x, 1, none⟩ = some (.int .i64 (p : Int)) := cell_of_row w2 x 1 _ _ _ k1; have c2 : w2.cell? ⟨x, 2, none⟩ = some (.int .i64 (-1)) := cell_of_row w2 x 2 _ _ _ k1; clear hx2)
        | fail)
      go_quiet (fail)
      go_upto_region 7 with (fail)
      have d0 : (w2.drewN nq).cell? ⟨x, 0, none⟩ = some (.slice ad N cap) := c0
      have d1 : (w2.drewN nq).cell? ⟨x, 1, none⟩ = some (.int .i64 (p : Int)) := c1
      have f1 : (w2.drewN nq).frozen? ⟨x, 1, none⟩ = false := frozen_of_row w2 x 1 _ _ k1
      have HP : Hid (∀ k, Try.XChg own w (((w2.drewN nq).drewN k).setCell ⟨x, 1, none⟩ (.int .i64 ((p : Int) + (n : Int)))) x ⟨t, p + n, none⟩) := fun k =>
        ((HX.out.drewN nq).drewN k).trans (((HX.out.rd.drewN nq).drewN k).setP (p + n) _ (by simp) (by show p + n ≤ t.length; have := HN.out; omega))
      have hcell : n = 0 ∨ ∃ g o, ad = some ⟨g, o, none⟩ ∧ n ≠ 0 ∧ ∀ j (hj : j < t.length), (w2.drewN nq).cell? ⟨g, o + j, none⟩ = some (.int .u8 (t[j].toNat : Nat)) := by
        by_cases hn0 : n = 0
        · exact .inl hn0
        · rcases hat with e | ⟨g, o, e, _, hc2⟩
          · have := HN.out; rw [e] at this; simp at this; omega
          · exact .inr ⟨g, o, e, hn0, fun j hj => hc2 j _ (byteCell hj)⟩
      rw [← HN.out] at hcap
      clear c0 c1 c2 k1 hbs hVx hat HX
      generalize w2.drewN nq = W2 at *
      rcases hcell with hn0 | ⟨g, o, rfl, hn1, hcell⟩
      · subst hn0
        have hcv : ∀ (k : Nat) (a : Option Addr) (c : Nat), (convert 22 9 (.slice a 0 c)).run Try.prog (W2.drewN k) = .ok (.string ⟨#[]⟩) (W2.drewN k) := fun k a c => Try.conv_zero _ a c
        have q6 : (p : Int) ≤ (cap : Int) := by omega
        have e5 : IntKind.i64.wrap (p : Int) = (p : Int) := by rw [IntKind.wrap_i64]; omega
        have q8 : (p : Int).toNat - p = 0 := by simp
        cases ad with
        | none =>
          have hc0 := hnn rfl
          have hp0 : p = 0 := by omega
          have hl0 : N = 0 := by omega
          subst hp0
          subst hc0
          subst hl0
          clear hnn hcap q6 q5 q3 hin
          go_quiet (fail)
          go_wp2
          go_ret
          exact ⟨by rw [HM.out]; rfl, by rw [HM.out]; exact HP.out _⟩
        | some d =>
          clear hnn
          go_quiet (fail)
          go_wp2
          all_goals
            go_ret
            exact ⟨by rw [HM.out]; rfl, by rw [HM.out]; exact HP.out _⟩
      · have hcv : ∀ k, (convert 22 9 (.slice (some ⟨g, o + p, none⟩) n (cap - p))).run Try.prog (W2.drewN k) = .ok (.string ⟨((t.drop p).take n).toArray⟩) (W2.drewN k) := fun k => by
          have hl : ((t.drop p).take n).length = n := by rw [List.length_take, List.length_drop]; have := HN.out; omega
          have := Try.conv_any (w := W2.drewN k) (g := g) (o := o + p) (cap := cap - p) ((t.drop p).take n) (fun j hj => by
            rw [hl] at hj
            show W2.cell? _ = _
            rw [Nat.add_assoc, hcell (p + j) (by have := HN.out; omega)]
            simp)
          rw [hl] at this
          exact this
        have q6 : (p : Int) + (n : Int) ≤ (cap : Int) := by omega
        have q7 : ((p : Int) + (n : Int)).toNat - p = n := by omega
        have q9 : ¬ cap = p := by omega
        clear hcell
        go_quiet (fail)
        go_wp2
        go_ret
        exact ⟨by rw [HM.out]; rfl, by rw [HM.out]; exact HP.out _⟩
end Go.Proofs
