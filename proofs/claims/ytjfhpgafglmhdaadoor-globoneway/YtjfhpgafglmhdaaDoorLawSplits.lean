/-
  GlobSplits, walked.
-/
import Derived.Test.YtjfhpgafglmhdaaDoorLawGFolds
namespace Go.Gl
open Go.Sg
theorem raw_app : ∀ (A B : List Nat) (e : Bool) (l : List P), raw e A = some l → raw e (A ++ B) = (raw false B).map (l ++ ·)
  | [], B, e, l, h => by
    cases e with
    | true => cases h
    | false =>
      have : l = [] := (Option.some.inj h).symm
      subst this
      show raw false B = _
      cases raw false B <;> rfl
  | r :: A, B, e, l, h => by
    rw [raw] at h
    rw [List.cons_append, raw]
    by_cases h1 : (e && !special r) = true
    · rw [if_pos h1] at h; cases h
    · rw [if_neg h1] at h ⊢
      by_cases h2 : (!e && r == 92) = true
      · rw [if_pos h2] at h ⊢; exact raw_app A B true l h
      · rw [if_neg h2] at h ⊢
        by_cases h3 : (!e && r == 42) = true
        · rw [if_pos h3] at h ⊢
          cases hr : raw false A with
          | none => rw [hr] at h; cases h
          | some l' =>
            rw [hr] at h
            have : P.any :: l' = l := Option.some.inj h
            subst this
            rw [raw_app A B false l' hr]
            cases raw false B <;> rfl
        · rw [if_neg h3] at h ⊢
          by_cases h4 : (!e && r == 63) = true
          · rw [if_pos h4] at h ⊢
            cases hr : raw false A with
            | none => rw [hr] at h; cases h
            | some l' =>
              rw [hr] at h
              have : P.one :: l' = l := Option.some.inj h
              subst this
              rw [raw_app A B false l' hr]
              cases raw false B <;> rfl
          · rw [if_neg h4] at h ⊢
            cases hr : raw false A with
            | none => rw [hr] at h; cases h
            | some l' =>
              rw [hr] at h
              have : P.fix r :: l' = l := Option.some.inj h
              subst this
              rw [raw_app A B false l' hr]
              cases raw false B <;> rfl
/-- A pattern that may be: its parts one by one. -/
theorem comp_raw {s : ByteArray} {ps : List P} (h : comp s = some ps) : valid s = true ∧ ∃ l, raw false (rns (fold s)) = some l ∧ ∀ r, Mp ps r ↔ Mp l r := by
  rw [comp_eq] at h
  by_cases hc : s.size ≤ 100 ∧ valid s = true
  · rw [if_pos hc] at h
    cases hr : raw false (rns (fold s)) with
    | none => rw [hr] at h; cases h
    | some l =>
      rw [hr] at h
      have : norm [] l = ps := Option.some.inj h
      subst this
      exact ⟨hc.2, l, rfl, fun r => Mp_norm l [] r⟩
  · rw [if_neg hc] at h; cases h
def star : ByteArray := ⟨#[42]⟩
theorem star_valid : valid star = true := by rfl
theorem star_fold : fold star = star := by kernel_rfl
theorem star_rns : rns star = [42] := by kernel_rfl
theorem raw_star (B : List Nat) : raw false (42 :: B) = (raw false B).map (P.any :: ·) := by rw [raw]; rfl
theorem split_means {p q : ByteArray} {P1 Q1 K1 : List P} (hp : comp p = some P1) (hq : comp q = some Q1) (hk : comp (p ++ star ++ q) = some K1) (r1 r2 r3 : List Nat) (h1 : Mp P1 r1) (h3 : Mp Q1 r3) : Mp K1 (r1 ++ r2 ++ r3) := by
  obtain ⟨vp, lp, rp, mp⟩ := comp_raw hp
  obtain ⟨vq, lq, rq, mq⟩ := comp_raw hq
  obtain ⟨vk, lk, rk, mk⟩ := comp_raw hk
  have hv1 : valid (p ++ star) = true := by rw [valid_app _ vp]; exact star_valid
  rw [fold_app _ _ hv1, fold_app _ _ vp, star_fold, rns_app _ (by rw [valid_app _ (by rw [valid_fold]; exact vp)]; exact star_valid), rns_app _ (by rw [valid_fold]; exact vp), star_rns, List.append_assoc, raw_app _ _ _ _ rp] at rk
  have e : raw false ([42] ++ rns (fold q)) = some (P.any :: lq) := by
    show raw false (42 :: rns (fold q)) = _
    rw [raw_star, rq]; rfl
  rw [e] at rk
  have hl : lp ++ P.any :: lq = lk := Option.some.inj rk
  rw [mk, ← hl, Mp_app]
  exact ⟨r1, r2 ++ r3, by simp, (mp r1).1 h1, r2, r3, rfl, trivial, (mq r3).1 h3⟩
theorem within_means {p : ByteArray} {P1 L1 : List P} (hp : comp p = some P1) (hl : comp (star ++ p ++ star) = some L1) (r1 r2 r3 : List Nat) (h2 : Mp P1 r2) : Mp L1 (r1 ++ r2 ++ r3) := by
  obtain ⟨vp, lp, rp, mp⟩ := comp_raw hp
  obtain ⟨vk, lk, rk, mk⟩ := comp_raw hl
  have hv1 : valid (star ++ p) = true := by rw [valid_app _ star_valid]; exact vp
  have hv2 : valid (star ++ fold p) = true := by rw [valid_app _ star_valid, valid_fold]; exact vp
  rw [fold_app _ _ hv1, fold_app _ _ star_valid, star_fold, rns_app _ hv2, rns_app _ star_valid, star_rns] at rk
  have e : raw false ([42] ++ rns (fold p) ++ [42]) = some (P.any :: (lp ++ [P.any])) := by
    show raw false (42 :: (rns (fold p) ++ [42])) = _
    rw [raw_star, raw_app _ _ _ _ rp]
    rfl
  rw [e] at rk
  have hl' : P.any :: (lp ++ [P.any]) = lk := Option.some.inj rk
  rw [mk, ← hl']
  refine ⟨r1, r2 ++ r3, by simp, trivial, ?_⟩
  rw [Mp_app]
  exact ⟨r2, r3, rfl, (mp r2).1 h2, (Mp_one _ _).2 trivial⟩
theorem rns3 {a b c : ByteArray} (ha : valid a = true) (hb : valid b = true) (hc : valid c = true) : valid (a ++ b ++ c) = true ∧ rns (fold (a ++ b ++ c)) = rns (fold a) ++ rns (fold b) ++ rns (fold c) := by
  have h1 : valid (a ++ b) = true := by rw [valid_app _ ha]; exact hb
  refine ⟨by rw [valid_app _ h1]; exact hc, ?_⟩
  rw [fold_app _ _ h1, fold_app _ _ ha, rns_app _ (by rw [valid_app _ (by rw [valid_fold]; exact ha), valid_fold]; exact hb), rns_app _ (by rw [valid_fold]; exact ha)]
end Go.Gl
namespace Go.Proofs
open Go.RowKit Go.Gl
theorem Tryd.compiled_any (s : ByteArray) (w : World) (hs : s.size ≤ maxLen) (hT : Tryd.Tabs w) :
    Calls Tryd.prog 17 #[.string s] w fun e w' => ∃ pv, e = .returned (.tuple #[pv, .bool true]) ∧ Tryd.Tabs w' ∧ Below w.heap.size w w' := by
  cases hc : comp s with
  | none => exact (Tryd.compiled_no hc w hs hT).mono fun e w' ⟨h1, h2, h3⟩ => ⟨_, h1, h2, h3⟩
  | some ps => exact (Tryd.compiled_yes hc w hs hT).mono fun e w' ⟨x, h1, _, h2, h3⟩ => ⟨_, h1, h2, h3⟩
set_option maxRecDepth 100000 in
set_option maxHeartbeats 8000000 in
theorem Tryd.globSplitsWalk (p : ByteArray) (hp : p.size ≤ 1048576) (q : ByteArray) (hq : q.size ≤ 1048576) (a : ByteArray) (ha : a.size ≤ 1048576) (x : ByteArray) (hx : x.size ≤ 1048576) (b : ByteArray) (hb : b.size ≤ 1048576) (w : World) (hT : Tryd.Tabs w) :
    Calls Tryd.prog 4 #[.string p, .string q, .string a, .string x, .string b] w fun e w' => e = .returned (.bool true) ∧ Below w.heap.size w w' := by
  have hm : maxLen = 9223372036854775807 := rfl
  have hss : star.size = 1 := rfl
  have z1 : (p ++ star ++ q).size ≤ maxLen := by rw [ByteArray.size_append, ByteArray.size_append]; omega
  have z2 : (star ++ p ++ star).size ≤ maxLen := by rw [ByteArray.size_append, ByteArray.size_append]; omega
  have z3 : (a ++ x ++ b).size ≤ 140737488355324 := by rw [ByteArray.size_append, ByteArray.size_append]; omega
  have z4 : (x ++ a ++ b).size ≤ 140737488355324 := by rw [ByteArray.size_append, ByteArray.size_append]; omega
  have hsh := Tryd.shown_any w hT
  have HT : Hid (Tryd.Tabs w) := hT
  have n1 : ¬ 9223372036854775807 < p.size + 1 := by omega
  have n2 : ¬ 9223372036854775807 < (p ++ star).size + q.size := by rw [ByteArray.size_append]; omega
  have n3 : ¬ 9223372036854775807 < a.size + x.size := by omega
  have n4 : ¬ 9223372036854775807 < (a ++ x).size + b.size := by rw [ByteArray.size_append]; omega
  have n5 : ¬ 9223372036854775807 < 1 + p.size := by omega
  have n6 : ¬ 9223372036854775807 < (star ++ p).size + 1 := by rw [ByteArray.size_append]; omega
  have n7 : ¬ 9223372036854775807 < x.size + a.size := by omega
  have n8 : ¬ 9223372036854775807 < (x ++ a).size + b.size := by rw [ByteArray.size_append]; omega
  clear hT
  cases hc1 : comp p with
  | none =>
    have q1 := fun W hW => Tryd.compiled_no hc1 W (by omega) hW
    have q2 := fun W hW => Tryd.compiled_any q W (by omega) hW
    have q3 := fun W hW => Tryd.compiled_any (p ++ star ++ q) W z1 hW
    unfold star at *
    clear hc1
    go_enter Tryd.func4, Tryd.ntmps4
    go_wp2_with (first
      | (go_at_call 9; refine hsh.mono ?_; clear hsh; rintro e1 w1 ⟨rfl, b1⟩; have t1 := HT.out.below b1)
      | (go_at_call 17; refine (q1 _ t1).mono ?_; clear q1; rintro e1 w2 ⟨rfl, t2, b2⟩; have bb2 := Below.then b1 b2)
      | (go_at_call 17; refine (q2 _ t2).mono ?_; clear q2; rintro e1 w3 ⟨pv2, rfl, t3, b3⟩; have bb3 := Below.then bb2 b3)
      | (go_at_call 17; refine (q3 _ t3).mono ?_; clear q3; rintro e1 w4 ⟨pv3, rfl, t4, b4⟩; have bb4 := Below.then bb3 b4)
      | fail)
    all_goals
      go_ret
      exact ⟨rfl, bb4⟩
  | some P1 =>
    have q1 := fun W hW => Tryd.compiled_yes hc1 W (by omega) hW
    cases hc2 : comp q with
    | none =>
      have q2 := fun W hW => Tryd.compiled_no hc2 W (by omega) hW
      have q3 := fun W hW => Tryd.compiled_any (p ++ star ++ q) W z1 hW
      unfold star at *
      clear hc1 hc2
      go_enter Tryd.func4, Tryd.ntmps4
      go_wp2_with (first
        | (go_at_call 9; refine hsh.mono ?_; clear hsh; rintro e1 w1 ⟨rfl, b1⟩; have t1 := HT.out.below b1)
        | (go_at_call 17; refine (q1 _ t1).mono ?_; clear q1; rintro e1 w2 ⟨x1, rfl, g2, t2, b2⟩; have bb2 := Below.then b1 b2)
        | (go_at_call 17; refine (q2 _ t2).mono ?_; clear q2; rintro e1 w3 ⟨rfl, t3, b3⟩; have bb3 := Below.then bb2 b3)
        | (go_at_call 17; refine (q3 _ t3).mono ?_; clear q3; rintro e1 w4 ⟨pv3, rfl, t4, b4⟩; have bb4 := Below.then bb3 b4)
        | fail)
      all_goals
        go_ret
        exact ⟨rfl, bb4⟩
    | some Q1 =>
      have q2 := fun W hW => Tryd.compiled_yes hc2 W (by omega) hW
      cases hc3 : comp (p ++ star ++ q) with
      | none =>
        have q3 := fun W hW => Tryd.compiled_no hc3 W z1 hW
        unfold star at *
        clear hc1 hc2 hc3
        go_enter Tryd.func4, Tryd.ntmps4
        go_wp2_with (first
          | (go_at_call 9; refine hsh.mono ?_; clear hsh; rintro e1 w1 ⟨rfl, b1⟩; have t1 := HT.out.below b1)
          | (go_at_call 17; refine (q1 _ t1).mono ?_; clear q1; rintro e1 w2 ⟨x1, rfl, g2, t2, b2⟩; have bb2 := Below.then b1 b2)
          | (go_at_call 17; refine (q2 _ t2).mono ?_; clear q2; rintro e1 w3 ⟨x2, rfl, h3, t3, b3⟩; have bb3 := Below.then bb2 b3; have g3 := g2.keep b3)
          | (go_at_call 17; refine (q3 _ t3).mono ?_; clear q3; rintro e1 w4 ⟨rfl, t4, b4⟩; have bb4 := Below.then bb3 b4)
          | fail)
        all_goals
          go_ret
          exact ⟨rfl, bb4⟩
      | some K1 =>
        have q3 := fun W hW => Tryd.compiled_yes hc3 W z1 hW
        have qa := fun x W hG hW => Tryd.whole_any P1 x a W hG (comp_len hc1) (by omega) hW
        have qb := fun x W hG hW => Tryd.whole_any Q1 x b W hG (comp_len hc2) (by omega) hW
        have qx := fun W => Tryd.valid_any x W (by omega)
        have qk := fun x' W hG hW => Tryd.whole_any K1 x' (a ++ x ++ b) W hG (comp_len hc3) z3 hW
        have qvb := fun W => Tryd.valid_any b W (by omega)
        have imp1 : wholeB P1 a = true → wholeB Q1 b = true → Sg.valid x = true → wholeB K1 (a ++ x ++ b) = true := fun h1 h2 h3 => by
          obtain ⟨v1, m1⟩ := (whole_iff _ _).1 h1
          obtain ⟨v2, m2⟩ := (whole_iff _ _).1 h2
          obtain ⟨v3, e3⟩ := rns3 v1 h3 v2
          exact (whole_iff _ _).2 ⟨v3, by rw [e3]; exact split_means hc1 hc2 hc3 _ _ _ m1 m2⟩
        cases hc4 : comp (star ++ p ++ star) with
        | none =>
          have q4 := fun W hW => Tryd.compiled_no hc4 W z2 hW
          unfold star at *
          clear hc1 hc2 hc3 hc4
          generalize wholeB P1 a = A1 at *
          generalize wholeB Q1 b = A2 at *
          generalize Sg.valid x = VX at *
          generalize wholeB K1 (a ++ x ++ b) = KW at *
          cases A1 with
          | false =>
            clear imp1
            go_enter Tryd.func4, Tryd.ntmps4
            go_wp2_with (first
              | (go_at_call 9; refine hsh.mono ?_; clear hsh; rintro e1 w1 ⟨rfl, b1⟩; have t1 := HT.out.below b1)
              | (go_at_call 17; refine (q1 _ t1).mono ?_; clear q1; rintro e1 w2 ⟨x1, rfl, g2, t2, b2⟩; have bb2 := Below.then b1 b2)
              | (go_at_call 17; refine (q2 _ t2).mono ?_; clear q2; rintro e1 w3 ⟨x2, rfl, h3, t3, b3⟩; have bb3 := Below.then bb2 b3; have g3 := g2.keep b3)
              | (go_at_call 17; refine (q3 _ t3).mono ?_; clear q3; rintro e1 w4 ⟨x3, rfl, k4, t4, b4⟩; have bb4 := Below.then bb3 b4; have g4 := g3.keep b4; have h4 := h3.keep b4; clear g3 h3 bb3 t3 b4)
              | (go_at_call 13; refine (qa _ _ g4 t4).mono ?_; clear qa; rintro e1 w5 ⟨rfl, b5⟩; have bb5 := Below.then bb4 b5; have t5 := t4.below b5; have h5 := h4.keep b5; have k5 := k4.keep b5; clear bb4 t4 g4 h4 k4 b5)
              | (go_at_call 13; refine (qb _ _ h5 t5).mono ?_; clear qb; rintro e1 w6 ⟨rfl, b6⟩; have bb6 := Below.then bb5 b6; have t6 := t5.below b6; have k6 := k5.keep b6; clear bb5 t5 h5 k5 b6)
              | (go_at_call 12; refine (qx _).mono ?_; clear qx; rintro e1 w7 ⟨rfl, b7⟩; have bb7 := Below.then bb6 b7; have t7 := t6.below b7; have k7 := k6.keep b7; clear bb6 t6 k6 b7)
              | (go_at_call 13; refine (qk _ _ k7 t7).mono ?_; clear qk; rintro e1 w8 ⟨rfl, b8⟩; have bb8 := Below.then bb7 b8; have t8 := t7.below b8; clear bb7 t7 k7 b8)
              | (go_at_call 17; refine (q4 _ t8).mono ?_; clear q4; rintro e1 w9 ⟨rfl, t9, b9⟩; have bb9 := Below.then bb8 b9)
              | fail)
            all_goals
              go_ret
              exact ⟨rfl, bb9⟩
          | true =>
            cases A2 with
            | false =>
              clear imp1
              go_enter Tryd.func4, Tryd.ntmps4
              go_wp2_with (first
                | (go_at_call 9; refine hsh.mono ?_; clear hsh; rintro e1 w1 ⟨rfl, b1⟩; have t1 := HT.out.below b1)
                | (go_at_call 17; refine (q1 _ t1).mono ?_; clear q1; rintro e1 w2 ⟨x1, rfl, g2, t2, b2⟩; have bb2 := Below.then b1 b2)
                | (go_at_call 17; refine (q2 _ t2).mono ?_; clear q2; rintro e1 w3 ⟨x2, rfl, h3, t3, b3⟩; have bb3 := Below.then bb2 b3; have g3 := g2.keep b3)
                | (go_at_call 17; refine (q3 _ t3).mono ?_; clear q3; rintro e1 w4 ⟨x3, rfl, k4, t4, b4⟩; have bb4 := Below.then bb3 b4; have g4 := g3.keep b4; have h4 := h3.keep b4; clear g3 h3 bb3 t3 b4)
                | (go_at_call 13; refine (qa _ _ g4 t4).mono ?_; clear qa; rintro e1 w5 ⟨rfl, b5⟩; have bb5 := Below.then bb4 b5; have t5 := t4.below b5; have h5 := h4.keep b5; have k5 := k4.keep b5; clear bb4 t4 g4 h4 k4 b5)
                | (go_at_call 13; refine (qb _ _ h5 t5).mono ?_; clear qb; rintro e1 w6 ⟨rfl, b6⟩; have bb6 := Below.then bb5 b6; have t6 := t5.below b6; have k6 := k5.keep b6; clear bb5 t5 h5 k5 b6)
                | (go_at_call 12; refine (qx _).mono ?_; clear qx; rintro e1 w7 ⟨rfl, b7⟩; have bb7 := Below.then bb6 b7; have t7 := t6.below b7; have k7 := k6.keep b7; clear bb6 t6 k6 b7)
                | (go_at_call 13; refine (qk _ _ k7 t7).mono ?_; clear qk; rintro e1 w8 ⟨rfl, b8⟩; have bb8 := Below.then bb7 b8; have t8 := t7.below b8; clear bb7 t7 k7 b8)
                | (go_at_call 17; refine (q4 _ t8).mono ?_; clear q4; rintro e1 w9 ⟨rfl, t9, b9⟩; have bb9 := Below.then bb8 b9)
                | fail)
              all_goals
                go_ret
                exact ⟨rfl, bb9⟩
            | true =>
              cases VX with
              | false =>
                clear imp1
                go_enter Tryd.func4, Tryd.ntmps4
                go_wp2_with (first
                  | (go_at_call 9; refine hsh.mono ?_; clear hsh; rintro e1 w1 ⟨rfl, b1⟩; have t1 := HT.out.below b1)
                  | (go_at_call 17; refine (q1 _ t1).mono ?_; clear q1; rintro e1 w2 ⟨x1, rfl, g2, t2, b2⟩; have bb2 := Below.then b1 b2)
                  | (go_at_call 17; refine (q2 _ t2).mono ?_; clear q2; rintro e1 w3 ⟨x2, rfl, h3, t3, b3⟩; have bb3 := Below.then bb2 b3; have g3 := g2.keep b3)
                  | (go_at_call 17; refine (q3 _ t3).mono ?_; clear q3; rintro e1 w4 ⟨x3, rfl, k4, t4, b4⟩; have bb4 := Below.then bb3 b4; have g4 := g3.keep b4; have h4 := h3.keep b4; clear g3 h3 bb3 t3 b4)
                  | (go_at_call 13; refine (qa _ _ g4 t4).mono ?_; clear qa; rintro e1 w5 ⟨rfl, b5⟩; have bb5 := Below.then bb4 b5; have t5 := t4.below b5; have h5 := h4.keep b5; have k5 := k4.keep b5; clear bb4 t4 g4 h4 k4 b5)
                  | (go_at_call 13; refine (qb _ _ h5 t5).mono ?_; clear qb; rintro e1 w6 ⟨rfl, b6⟩; have bb6 := Below.then bb5 b6; have t6 := t5.below b6; have k6 := k5.keep b6; clear bb5 t5 h5 k5 b6)
                  | (go_at_call 12; refine (qx _).mono ?_; clear qx; rintro e1 w7 ⟨rfl, b7⟩; have bb7 := Below.then bb6 b7; have t7 := t6.below b7; have k7 := k6.keep b7; clear bb6 t6 k6 b7)
                  | (go_at_call 13; refine (qk _ _ k7 t7).mono ?_; clear qk; rintro e1 w8 ⟨rfl, b8⟩; have bb8 := Below.then bb7 b8; have t8 := t7.below b8; clear bb7 t7 k7 b8)
                  | (go_at_call 17; refine (q4 _ t8).mono ?_; clear q4; rintro e1 w9 ⟨rfl, t9, b9⟩; have bb9 := Below.then bb8 b9)
                  | fail)
                all_goals
                  go_ret
                  exact ⟨rfl, bb9⟩
              | true =>
                have hkw := imp1 rfl rfl rfl
                subst hkw
                clear imp1
                go_enter Tryd.func4, Tryd.ntmps4
                go_wp2_with (first
                  | (go_at_call 9; refine hsh.mono ?_; clear hsh; rintro e1 w1 ⟨rfl, b1⟩; have t1 := HT.out.below b1)
                  | (go_at_call 17; refine (q1 _ t1).mono ?_; clear q1; rintro e1 w2 ⟨x1, rfl, g2, t2, b2⟩; have bb2 := Below.then b1 b2)
                  | (go_at_call 17; refine (q2 _ t2).mono ?_; clear q2; rintro e1 w3 ⟨x2, rfl, h3, t3, b3⟩; have bb3 := Below.then bb2 b3; have g3 := g2.keep b3)
                  | (go_at_call 17; refine (q3 _ t3).mono ?_; clear q3; rintro e1 w4 ⟨x3, rfl, k4, t4, b4⟩; have bb4 := Below.then bb3 b4; have g4 := g3.keep b4; have h4 := h3.keep b4; clear g3 h3 bb3 t3 b4)
                  | (go_at_call 13; refine (qa _ _ g4 t4).mono ?_; clear qa; rintro e1 w5 ⟨rfl, b5⟩; have bb5 := Below.then bb4 b5; have t5 := t4.below b5; have h5 := h4.keep b5; have k5 := k4.keep b5; clear bb4 t4 g4 h4 k4 b5)
                  | (go_at_call 13; refine (qb _ _ h5 t5).mono ?_; clear qb; rintro e1 w6 ⟨rfl, b6⟩; have bb6 := Below.then bb5 b6; have t6 := t5.below b6; have k6 := k5.keep b6; clear bb5 t5 h5 k5 b6)
                  | (go_at_call 12; refine (qx _).mono ?_; clear qx; rintro e1 w7 ⟨rfl, b7⟩; have bb7 := Below.then bb6 b7; have t7 := t6.below b7; have k7 := k6.keep b7; clear bb6 t6 k6 b7)
                  | (go_at_call 13; refine (qk _ _ k7 t7).mono ?_; clear qk; rintro e1 w8 ⟨rfl, b8⟩; have bb8 := Below.then bb7 b8; have t8 := t7.below b8; clear bb7 t7 k7 b8)
                  | (go_at_call 17; refine (q4 _ t8).mono ?_; clear q4; rintro e1 w9 ⟨rfl, t9, b9⟩; have bb9 := Below.then bb8 b9)
                  | fail)
                all_goals
                  go_ret
                  exact ⟨rfl, bb9⟩
        | some L1 =>
          have q4 := fun W hW => Tryd.compiled_yes hc4 W z2 hW
          have ql := fun x' W hG hW => Tryd.whole_any L1 x' (x ++ a ++ b) W hG (comp_len hc4) z4 hW
          have imp2 : wholeB P1 a = true → Sg.valid x = true → Sg.valid b = true → wholeB L1 (x ++ a ++ b) = true := fun h1 h2 h3 => by
            obtain ⟨v1, m1⟩ := (whole_iff _ _).1 h1
            obtain ⟨v3, e3⟩ := rns3 h2 v1 h3
            exact (whole_iff _ _).2 ⟨v3, by rw [e3]; exact within_means hc1 hc4 _ _ _ m1⟩
          unfold star at *
          clear hc1 hc2 hc3 hc4
          generalize wholeB P1 a = A1 at *
          generalize wholeB Q1 b = A2 at *
          generalize Sg.valid x = VX at *
          generalize Sg.valid b = VB at *
          generalize wholeB K1 (a ++ x ++ b) = KW at *
          generalize wholeB L1 (x ++ a ++ b) = LW at *
          cases A1 with
          | false =>
            clear imp1 imp2
            go_enter Tryd.func4, Tryd.ntmps4
            go_wp2_with (first
              | (go_at_call 9; refine hsh.mono ?_; clear hsh; rintro e1 w1 ⟨rfl, b1⟩; have t1 := HT.out.below b1)
              | (go_at_call 17; refine (q1 _ t1).mono ?_; clear q1; rintro e1 w2 ⟨x1, rfl, g2, t2, b2⟩; have bb2 := Below.then b1 b2)
              | (go_at_call 17; refine (q2 _ t2).mono ?_; clear q2; rintro e1 w3 ⟨x2, rfl, h3, t3, b3⟩; have bb3 := Below.then bb2 b3; have g3 := g2.keep b3)
              | (go_at_call 17; refine (q3 _ t3).mono ?_; clear q3; rintro e1 w4 ⟨x3, rfl, k4, t4, b4⟩; have bb4 := Below.then bb3 b4; have g4 := g3.keep b4; have h4 := h3.keep b4; clear g3 h3 bb3 t3 b4)
              | (go_at_call 13; refine (qa _ _ g4 t4).mono ?_; clear qa; rintro e1 w5 ⟨rfl, b5⟩; have bb5 := Below.then bb4 b5; have t5 := t4.below b5; have h5 := h4.keep b5; have k5 := k4.keep b5; clear bb4 t4 g4 h4 k4 b5)
              | (go_at_call 13; refine (qb _ _ h5 t5).mono ?_; clear qb; rintro e1 w6 ⟨rfl, b6⟩; have bb6 := Below.then bb5 b6; have t6 := t5.below b6; have k6 := k5.keep b6; clear bb5 t5 h5 k5 b6)
              | (go_at_call 12; refine (qx _).mono ?_; clear qx; rintro e1 w7 ⟨rfl, b7⟩; have bb7 := Below.then bb6 b7; have t7 := t6.below b7; have k7 := k6.keep b7; clear bb6 t6 k6 b7)
              | (go_at_call 13; refine (qk _ _ k7 t7).mono ?_; clear qk; rintro e1 w8 ⟨rfl, b8⟩; have bb8 := Below.then bb7 b8; have t8 := t7.below b8; clear bb7 t7 k7 b8)
              | (go_at_call 17; refine (q4 _ t8).mono ?_; clear q4; rintro e1 w9 ⟨x4, rfl, l9, t9, b9⟩; have bb9 := Below.then bb8 b9; clear bb8 t8 b9)
              | (go_at_call 12; refine (qvb _).mono ?_; clear qvb; rintro e1 w10 ⟨rfl, b10⟩; have bb10 := Below.then bb9 b10; have t10 := t9.below b10; have l10 := l9.keep b10; clear bb9 t9 l9 b10)
              | (go_at_call 13; refine (ql _ _ l10 t10).mono ?_; clear ql; rintro e1 w11 ⟨rfl, b11⟩; have bb11 := Below.then bb10 b11; clear bb10 t10 l10 b11)
              | fail)
            all_goals
              go_ret
              exact ⟨rfl, bb11⟩
          | true =>
            cases VX with
            | false =>
              clear imp1 imp2
              cases A2 with
              | false =>
                go_enter Tryd.func4, Tryd.ntmps4
                go_wp2_with (first
                  | (go_at_call 9; refine hsh.mono ?_; clear hsh; rintro e1 w1 ⟨rfl, b1⟩; have t1 := HT.out.below b1)
                  | (go_at_call 17; refine (q1 _ t1).mono ?_; clear q1; rintro e1 w2 ⟨x1, rfl, g2, t2, b2⟩; have bb2 := Below.then b1 b2)
                  | (go_at_call 17; refine (q2 _ t2).mono ?_; clear q2; rintro e1 w3 ⟨x2, rfl, h3, t3, b3⟩; have bb3 := Below.then bb2 b3; have g3 := g2.keep b3)
                  | (go_at_call 17; refine (q3 _ t3).mono ?_; clear q3; rintro e1 w4 ⟨x3, rfl, k4, t4, b4⟩; have bb4 := Below.then bb3 b4; have g4 := g3.keep b4; have h4 := h3.keep b4; clear g3 h3 bb3 t3 b4)
                  | (go_at_call 13; refine (qa _ _ g4 t4).mono ?_; clear qa; rintro e1 w5 ⟨rfl, b5⟩; have bb5 := Below.then bb4 b5; have t5 := t4.below b5; have h5 := h4.keep b5; have k5 := k4.keep b5; clear bb4 t4 g4 h4 k4 b5)
                  | (go_at_call 13; refine (qb _ _ h5 t5).mono ?_; clear qb; rintro e1 w6 ⟨rfl, b6⟩; have bb6 := Below.then bb5 b6; have t6 := t5.below b6; have k6 := k5.keep b6; clear bb5 t5 h5 k5 b6)
                  | (go_at_call 12; refine (qx _).mono ?_; clear qx; rintro e1 w7 ⟨rfl, b7⟩; have bb7 := Below.then bb6 b7; have t7 := t6.below b7; have k7 := k6.keep b7; clear bb6 t6 k6 b7)
                  | (go_at_call 13; refine (qk _ _ k7 t7).mono ?_; clear qk; rintro e1 w8 ⟨rfl, b8⟩; have bb8 := Below.then bb7 b8; have t8 := t7.below b8; clear bb7 t7 k7 b8)
                  | (go_at_call 17; refine (q4 _ t8).mono ?_; clear q4; rintro e1 w9 ⟨x4, rfl, l9, t9, b9⟩; have bb9 := Below.then bb8 b9; clear bb8 t8 b9)
                  | (go_at_call 12; refine (qvb _).mono ?_; clear qvb; rintro e1 w10 ⟨rfl, b10⟩; have bb10 := Below.then bb9 b10; have t10 := t9.below b10; have l10 := l9.keep b10; clear bb9 t9 l9 b10)
                  | (go_at_call 13; refine (ql _ _ l10 t10).mono ?_; clear ql; rintro e1 w11 ⟨rfl, b11⟩; have bb11 := Below.then bb10 b11; clear bb10 t10 l10 b11)
                  | fail)
                all_goals
                  go_ret
                  exact ⟨rfl, bb11⟩
              | true =>
                go_enter Tryd.func4, Tryd.ntmps4
                go_wp2_with (first
                  | (go_at_call 9; refine hsh.mono ?_; clear hsh; rintro e1 w1 ⟨rfl, b1⟩; have t1 := HT.out.below b1)
                  | (go_at_call 17; refine (q1 _ t1).mono ?_; clear q1; rintro e1 w2 ⟨x1, rfl, g2, t2, b2⟩; have bb2 := Below.then b1 b2)
                  | (go_at_call 17; refine (q2 _ t2).mono ?_; clear q2; rintro e1 w3 ⟨x2, rfl, h3, t3, b3⟩; have bb3 := Below.then bb2 b3; have g3 := g2.keep b3)
                  | (go_at_call 17; refine (q3 _ t3).mono ?_; clear q3; rintro e1 w4 ⟨x3, rfl, k4, t4, b4⟩; have bb4 := Below.then bb3 b4; have g4 := g3.keep b4; have h4 := h3.keep b4; clear g3 h3 bb3 t3 b4)
                  | (go_at_call 13; refine (qa _ _ g4 t4).mono ?_; clear qa; rintro e1 w5 ⟨rfl, b5⟩; have bb5 := Below.then bb4 b5; have t5 := t4.below b5; have h5 := h4.keep b5; have k5 := k4.keep b5; clear bb4 t4 g4 h4 k4 b5)
                  | (go_at_call 13; refine (qb _ _ h5 t5).mono ?_; clear qb; rintro e1 w6 ⟨rfl, b6⟩; have bb6 := Below.then bb5 b6; have t6 := t5.below b6; have k6 := k5.keep b6; clear bb5 t5 h5 k5 b6)
                  | (go_at_call 12; refine (qx _).mono ?_; clear qx; rintro e1 w7 ⟨rfl, b7⟩; have bb7 := Below.then bb6 b7; have t7 := t6.below b7; have k7 := k6.keep b7; clear bb6 t6 k6 b7)
                  | (go_at_call 13; refine (qk _ _ k7 t7).mono ?_; clear qk; rintro e1 w8 ⟨rfl, b8⟩; have bb8 := Below.then bb7 b8; have t8 := t7.below b8; clear bb7 t7 k7 b8)
                  | (go_at_call 17; refine (q4 _ t8).mono ?_; clear q4; rintro e1 w9 ⟨x4, rfl, l9, t9, b9⟩; have bb9 := Below.then bb8 b9; clear bb8 t8 b9)
                  | (go_at_call 12; refine (qvb _).mono ?_; clear qvb; rintro e1 w10 ⟨rfl, b10⟩; have bb10 := Below.then bb9 b10; have t10 := t9.below b10; have l10 := l9.keep b10; clear bb9 t9 l9 b10)
                  | (go_at_call 13; refine (ql _ _ l10 t10).mono ?_; clear ql; rintro e1 w11 ⟨rfl, b11⟩; have bb11 := Below.then bb10 b11; clear bb10 t10 l10 b11)
                  | fail)
                all_goals
                  go_ret
                  exact ⟨rfl, bb11⟩
            | true =>
              cases VB with
              | false =>
                clear imp2
                cases A2 with
                | false =>
                  clear imp1
                  go_enter Tryd.func4, Tryd.ntmps4
                  go_wp2_with (first
                    | (go_at_call 9; refine hsh.mono ?_; clear hsh; rintro e1 w1 ⟨rfl, b1⟩; have t1 := HT.out.below b1)
                    | (go_at_call 17; refine (q1 _ t1).mono ?_; clear q1; rintro e1 w2 ⟨x1, rfl, g2, t2, b2⟩; have bb2 := Below.then b1 b2)
                    | (go_at_call 17; refine (q2 _ t2).mono ?_; clear q2; rintro e1 w3 ⟨x2, rfl, h3, t3, b3⟩; have bb3 := Below.then bb2 b3; have g3 := g2.keep b3)
                    | (go_at_call 17; refine (q3 _ t3).mono ?_; clear q3; rintro e1 w4 ⟨x3, rfl, k4, t4, b4⟩; have bb4 := Below.then bb3 b4; have g4 := g3.keep b4; have h4 := h3.keep b4; clear g3 h3 bb3 t3 b4)
                    | (go_at_call 13; refine (qa _ _ g4 t4).mono ?_; clear qa; rintro e1 w5 ⟨rfl, b5⟩; have bb5 := Below.then bb4 b5; have t5 := t4.below b5; have h5 := h4.keep b5; have k5 := k4.keep b5; clear bb4 t4 g4 h4 k4 b5)
                    | (go_at_call 13; refine (qb _ _ h5 t5).mono ?_; clear qb; rintro e1 w6 ⟨rfl, b6⟩; have bb6 := Below.then bb5 b6; have t6 := t5.below b6; have k6 := k5.keep b6; clear bb5 t5 h5 k5 b6)
                    | (go_at_call 12; refine (qx _).mono ?_; clear qx; rintro e1 w7 ⟨rfl, b7⟩; have bb7 := Below.then bb6 b7; have t7 := t6.below b7; have k7 := k6.keep b7; clear bb6 t6 k6 b7)
                    | (go_at_call 13; refine (qk _ _ k7 t7).mono ?_; clear qk; rintro e1 w8 ⟨rfl, b8⟩; have bb8 := Below.then bb7 b8; have t8 := t7.below b8; clear bb7 t7 k7 b8)
                    | (go_at_call 17; refine (q4 _ t8).mono ?_; clear q4; rintro e1 w9 ⟨x4, rfl, l9, t9, b9⟩; have bb9 := Below.then bb8 b9; clear bb8 t8 b9)
                    | (go_at_call 12; refine (qvb _).mono ?_; clear qvb; rintro e1 w10 ⟨rfl, b10⟩; have bb10 := Below.then bb9 b10; have t10 := t9.below b10; have l10 := l9.keep b10; clear bb9 t9 l9 b10)
                    | (go_at_call 13; refine (ql _ _ l10 t10).mono ?_; clear ql; rintro e1 w11 ⟨rfl, b11⟩; have bb11 := Below.then bb10 b11; clear bb10 t10 l10 b11)
                    | fail)
                  all_goals
                    go_ret
                    exact ⟨rfl, bb11⟩
                | true =>
                  have hkw := imp1 rfl rfl rfl
                  subst hkw
                  clear imp1
                  go_enter Tryd.func4, Tryd.ntmps4
                  go_wp2_with (first
                    | (go_at_call 9; refine hsh.mono ?_; clear hsh; rintro e1 w1 ⟨rfl, b1⟩; have t1 := HT.out.below b1)
                    | (go_at_call 17; refine (q1 _ t1).mono ?_; clear q1; rintro e1 w2 ⟨x1, rfl, g2, t2, b2⟩; have bb2 := Below.then b1 b2)
                    | (go_at_call 17; refine (q2 _ t2).mono ?_; clear q2; rintro e1 w3 ⟨x2, rfl, h3, t3, b3⟩; have bb3 := Below.then bb2 b3; have g3 := g2.keep b3)
                    | (go_at_call 17; refine (q3 _ t3).mono ?_; clear q3; rintro e1 w4 ⟨x3, rfl, k4, t4, b4⟩; have bb4 := Below.then bb3 b4; have g4 := g3.keep b4; have h4 := h3.keep b4; clear g3 h3 bb3 t3 b4)
                    | (go_at_call 13; refine (qa _ _ g4 t4).mono ?_; clear qa; rintro e1 w5 ⟨rfl, b5⟩; have bb5 := Below.then bb4 b5; have t5 := t4.below b5; have h5 := h4.keep b5; have k5 := k4.keep b5; clear bb4 t4 g4 h4 k4 b5)
                    | (go_at_call 13; refine (qb _ _ h5 t5).mono ?_; clear qb; rintro e1 w6 ⟨rfl, b6⟩; have bb6 := Below.then bb5 b6; have t6 := t5.below b6; have k6 := k5.keep b6; clear bb5 t5 h5 k5 b6)
                    | (go_at_call 12; refine (qx _).mono ?_; clear qx; rintro e1 w7 ⟨rfl, b7⟩; have bb7 := Below.then bb6 b7; have t7 := t6.below b7; have k7 := k6.keep b7; clear bb6 t6 k6 b7)
                    | (go_at_call 13; refine (qk _ _ k7 t7).mono ?_; clear qk; rintro e1 w8 ⟨rfl, b8⟩; have bb8 := Below.then bb7 b8; have t8 := t7.below b8; clear bb7 t7 k7 b8)
                    | (go_at_call 17; refine (q4 _ t8).mono ?_; clear q4; rintro e1 w9 ⟨x4, rfl, l9, t9, b9⟩; have bb9 := Below.then bb8 b9; clear bb8 t8 b9)
                    | (go_at_call 12; refine (qvb _).mono ?_; clear qvb; rintro e1 w10 ⟨rfl, b10⟩; have bb10 := Below.then bb9 b10; have t10 := t9.below b10; have l10 := l9.keep b10; clear bb9 t9 l9 b10)
                    | (go_at_call 13; refine (ql _ _ l10 t10).mono ?_; clear ql; rintro e1 w11 ⟨rfl, b11⟩; have bb11 := Below.then bb10 b11; clear bb10 t10 l10 b11)
                    | fail)
                  all_goals
                    go_ret
                    exact ⟨rfl, bb11⟩
              | true =>
                have hlw := imp2 rfl rfl rfl
                subst hlw
                clear imp2
                cases A2 with
                | false =>
                  clear imp1
                  go_enter Tryd.func4, Tryd.ntmps4
                  go_wp2_with (first
                    | (go_at_call 9; refine hsh.mono ?_; clear hsh; rintro e1 w1 ⟨rfl, b1⟩; have t1 := HT.out.below b1)
                    | (go_at_call 17; refine (q1 _ t1).mono ?_; clear q1; rintro e1 w2 ⟨x1, rfl, g2, t2, b2⟩; have bb2 := Below.then b1 b2)
                    | (go_at_call 17; refine (q2 _ t2).mono ?_; clear q2; rintro e1 w3 ⟨x2, rfl, h3, t3, b3⟩; have bb3 := Below.then bb2 b3; have g3 := g2.keep b3)
                    | (go_at_call 17; refine (q3 _ t3).mono ?_; clear q3; rintro e1 w4 ⟨x3, rfl, k4, t4, b4⟩; have bb4 := Below.then bb3 b4; have g4 := g3.keep b4; have h4 := h3.keep b4; clear g3 h3 bb3 t3 b4)
                    | (go_at_call 13; refine (qa _ _ g4 t4).mono ?_; clear qa; rintro e1 w5 ⟨rfl, b5⟩; have bb5 := Below.then bb4 b5; have t5 := t4.below b5; have h5 := h4.keep b5; have k5 := k4.keep b5; clear bb4 t4 g4 h4 k4 b5)
                    | (go_at_call 13; refine (qb _ _ h5 t5).mono ?_; clear qb; rintro e1 w6 ⟨rfl, b6⟩; have bb6 := Below.then bb5 b6; have t6 := t5.below b6; have k6 := k5.keep b6; clear bb5 t5 h5 k5 b6)
                    | (go_at_call 12; refine (qx _).mono ?_; clear qx; rintro e1 w7 ⟨rfl, b7⟩; have bb7 := Below.then bb6 b7; have t7 := t6.below b7; have k7 := k6.keep b7; clear bb6 t6 k6 b7)
                    | (go_at_call 13; refine (qk _ _ k7 t7).mono ?_; clear qk; rintro e1 w8 ⟨rfl, b8⟩; have bb8 := Below.then bb7 b8; have t8 := t7.below b8; clear bb7 t7 k7 b8)
                    | (go_at_call 17; refine (q4 _ t8).mono ?_; clear q4; rintro e1 w9 ⟨x4, rfl, l9, t9, b9⟩; have bb9 := Below.then bb8 b9; clear bb8 t8 b9)
                    | (go_at_call 12; refine (qvb _).mono ?_; clear qvb; rintro e1 w10 ⟨rfl, b10⟩; have bb10 := Below.then bb9 b10; have t10 := t9.below b10; have l10 := l9.keep b10; clear bb9 t9 l9 b10)
                    | (go_at_call 13; refine (ql _ _ l10 t10).mono ?_; clear ql; rintro e1 w11 ⟨rfl, b11⟩; have bb11 := Below.then bb10 b11; clear bb10 t10 l10 b11)
                    | fail)
                  all_goals
                    go_ret
                    exact ⟨rfl, bb11⟩
                | true =>
                  have hkw := imp1 rfl rfl rfl
                  subst hkw
                  clear imp1
                  go_enter Tryd.func4, Tryd.ntmps4
                  go_wp2_with (first
                    | (go_at_call 9; refine hsh.mono ?_; clear hsh; rintro e1 w1 ⟨rfl, b1⟩; have t1 := HT.out.below b1)
                    | (go_at_call 17; refine (q1 _ t1).mono ?_; clear q1; rintro e1 w2 ⟨x1, rfl, g2, t2, b2⟩; have bb2 := Below.then b1 b2)
                    | (go_at_call 17; refine (q2 _ t2).mono ?_; clear q2; rintro e1 w3 ⟨x2, rfl, h3, t3, b3⟩; have bb3 := Below.then bb2 b3; have g3 := g2.keep b3)
                    | (go_at_call 17; refine (q3 _ t3).mono ?_; clear q3; rintro e1 w4 ⟨x3, rfl, k4, t4, b4⟩; have bb4 := Below.then bb3 b4; have g4 := g3.keep b4; have h4 := h3.keep b4; clear g3 h3 bb3 t3 b4)
                    | (go_at_call 13; refine (qa _ _ g4 t4).mono ?_; clear qa; rintro e1 w5 ⟨rfl, b5⟩; have bb5 := Below.then bb4 b5; have t5 := t4.below b5; have h5 := h4.keep b5; have k5 := k4.keep b5; clear bb4 t4 g4 h4 k4 b5)
                    | (go_at_call 13; refine (qb _ _ h5 t5).mono ?_; clear qb; rintro e1 w6 ⟨rfl, b6⟩; have bb6 := Below.then bb5 b6; have t6 := t5.below b6; have k6 := k5.keep b6; clear bb5 t5 h5 k5 b6)
                    | (go_at_call 12; refine (qx _).mono ?_; clear qx; rintro e1 w7 ⟨rfl, b7⟩; have bb7 := Below.then bb6 b7; have t7 := t6.below b7; have k7 := k6.keep b7; clear bb6 t6 k6 b7)
                    | (go_at_call 13; refine (qk _ _ k7 t7).mono ?_; clear qk; rintro e1 w8 ⟨rfl, b8⟩; have bb8 := Below.then bb7 b8; have t8 := t7.below b8; clear bb7 t7 k7 b8)
                    | (go_at_call 17; refine (q4 _ t8).mono ?_; clear q4; rintro e1 w9 ⟨x4, rfl, l9, t9, b9⟩; have bb9 := Below.then bb8 b9; clear bb8 t8 b9)
                    | (go_at_call 12; refine (qvb _).mono ?_; clear qvb; rintro e1 w10 ⟨rfl, b10⟩; have bb10 := Below.then bb9 b10; have t10 := t9.below b10; have l10 := l9.keep b10; clear bb9 t9 l9 b10)
                    | (go_at_call 13; refine (ql _ _ l10 t10).mono ?_; clear ql; rintro e1 w11 ⟨rfl, b11⟩; have bb11 := Below.then bb10 b11; clear bb10 t10 l10 b11)
                    | fail)
                  all_goals
                    go_ret
                    exact ⟨rfl, bb11⟩
end Go.Proofs
