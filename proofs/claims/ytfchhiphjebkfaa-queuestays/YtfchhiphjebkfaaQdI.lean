/-
  New, State, Head, delay (things: int).
-/
import Derived.Test.YtfchhiphjebkfaaQbI
import Derived.Test.YtfchhiphjebkfaaQc
namespace Go.Proofs
open Go.RowKit Go.Wi Go.Qu
set_option maxHeartbeats 1000000 in
theorem Try.newI (size base most : Int) (h1 : 1 ≤ size) (h2 : size ≤ 1000) (h3 : 1 ≤ base) (h4 : base ≤ most) (h5 : most ≤ 1000000000) (w : World) :
    Calls Try.prog 8 #[.int .i64 size, .int .i64 base, .int .i64 most] w fun e w' => ∃ b, e = .returned (.tuple #[.pointer (some ⟨b, 0, none⟩), .int .i64 0]) ∧ Try.QuI w' (fun k => w.heap.size ≤ k ∧ k < w'.heap.size) b ⟨size, base, most, [], 0, 0, 0⟩ ∧ Below w.heap.size w w' := by
  have a1 := Try.within_yes h1 h2 w
  have a2 := Try.within_yes h3 (show base ≤ 1000000000 by omega) w
  have a3 := Try.within_yes h4 h5 w
  go_enter Try.func8, Try.ntmps8
  go_wp2_with (first
    | (go_at_call 21; refine a1.mono ?_; clear a1; rintro z w1 ⟨rfl, rfl⟩)
    | (go_at_call 21; refine a2.mono ?_; clear a2; rintro z w1 ⟨rfl, rfl⟩)
    | (go_at_call 21; refine a3.mono ?_; clear a3; rintro z w1 ⟨rfl, rfl⟩)
    | fail)
  go_ret2
  refine ⟨_, rfl, ⟨⟨.slice none 0 0, none, heap_alloc_new _ _, Row.nil _ _, (fun e => by cases e), fun k e => by cases e⟩, ⟨Nat.le_refl _, by simp⟩, fun k e => e.2, ⟨h1, h2, h3, h4, h5, by simp; omega, by simp, by simp, by simp, by simp, by simp, by simp⟩⟩, (Below.refl _ _).alloc (Nat.le_refl _) _⟩
set_option maxHeartbeats 1000000 in
theorem Try.stateI {w : World} {own : Nat → Prop} {b : Nat} {s : Qs Int} (h : Try.QuI w own b s) :
    Calls Try.prog 13 #[.pointer (some ⟨b, 0, none⟩)] w fun e w' => e = .returned (.tuple #[.int .i64 s.l.length, .int .i64 s.f, .int .i64 s.u, .int .i64 s.d]) ∧ Below w.heap.size w w' := by
  obtain ⟨v, g, hb, hr, hg, ho⟩ := h.ex
  obtain ⟨a, cap, rfl⟩ := hr.form
  simp only [List.length_map] at hb
  have c3 := cell_of_row w b 3 _ _ _ hb
  have c4 := cell_of_row w b 4 _ _ _ hb
  have c5 := cell_of_row w b 5 _ _ _ hb
  have c6 := cell_of_row w b 6 _ _ _ hb
  clear hb hr hg ho h
  go_enter Try.func13, Try.ntmps13
  go_wp2
  go_quiet (fail)
  go_wp2
  (try simp only [Exit.inBlock, Exit.then])
  refine bodyPost_ret (Qu.results4 rfl _ _ _) rfl ?_
  exact ⟨rfl, belowN (Below.refl _ w) _⟩
set_option maxHeartbeats 1000000 in
theorem Try.headYesI {w : World} {own : Nat → Prop} {b : Nat} {s : Qs Int} (h : Try.QuI w own b s) {x : Int} {r : List Int} (hl : s.l = x :: r) (now : Int) (hn : s.u ≤ now) :
    Calls Try.prog 9 #[.pointer (some ⟨b, 0, none⟩), .int .i64 now] w fun e w' => e = .returned (.tuple #[Value.int .i64 x, .bool true]) ∧ w' = w := by
  obtain ⟨v, g, hb, hr, hg, ho⟩ := h.ex
  rw [hl] at hr
  obtain ⟨k, o, cap, rfl, rfl, hcap, hkl, hcell, hfro, hset⟩ := hr.cons
  simp only [List.length_map] at hb
  have c3 := cell_of_row w b 3 _ _ _ hb
  have c5 := cell_of_row w b 5 _ _ _ hb
  have ck : w.cell? ⟨k, o, none⟩ = some (Value.int .i64 x) := hcell 0 _ rfl
  have q1 : ¬ now < s.u := by omega
  clear hb hr hg ho h hset hcell hfro hl
  go_enter Try.func9, Try.ntmps9
  go_wp2
  go_ret2
  exact ⟨rfl, rfl⟩
set_option maxHeartbeats 1000000 in
theorem Try.headNoI {w : World} {own : Nat → Prop} {b : Nat} {s : Qs Int} (h : Try.QuI w own b s) (now : Int) (hn : s.l = [] ∨ now < s.u) :
    Calls Try.prog 9 #[.pointer (some ⟨b, 0, none⟩), .int .i64 now] w fun e w' => e = .returned (.tuple #[Value.int .i64 (0 : Int), .bool false]) ∧ w' = w := by
  obtain ⟨v, g, hb, hr, hg, ho⟩ := h.ex
  obtain ⟨a, cap, rfl⟩ := hr.form
  simp only [List.length_map] at hb
  have c3 := cell_of_row w b 3 _ _ _ hb
  have c5 := cell_of_row w b 5 _ _ _ hb
  clear hb hr hg ho h
  by_cases h0 : s.l.length = 0
  · have q1 : ((s.l.length : Int) == 0) = true := by rw [h0]; rfl
    go_enter Try.func9, Try.ntmps9
    go_wp2
    go_ret2
    exact ⟨rfl, rfl⟩
  · have q1 : ((s.l.length : Int) == 0) = false := by simp; intro e; exact h0 (by rw [e]; rfl)
    have q2 : now < s.u := by rcases hn with hn | hn; exact absurd (by rw [hn]; rfl) h0; exact hn
    clear hn
    go_enter Try.func9, Try.ntmps9
    go_wp2
    go_ret2
    exact ⟨rfl, rfl⟩
set_option maxHeartbeats 1000000 in
theorem Try.delayI {w : World} {own : Nat → Prop} {b : Nat} {s : Qs Int} (h : Try.QuI w own b s) (n : Nat) (hn : n < 1000000000) :
    Calls Try.prog 24 #[.pointer (some ⟨b, 0, none⟩), .int .i64 (n + 1 : Nat)] w fun e w' => e = .returned (.int .i64 (dl s.base s.most n)) ∧ w' = w := by
  obtain ⟨v, g, hb, hr, hg, ho⟩ := h.ex
  have c1 := cell_of_row w b 1 _ _ _ hb
  have c2 := cell_of_row w b 2 _ _ _ hb
  have hi := h.inn
  have h1 := hi.b1
  have h2 := hi.b2
  have h3 := hi.m2
  clear hb hr hg ho h hi
  generalize s.base = base at *
  generalize s.most = most at *
  go_enter Try.func24, Try.ntmps24
  go_wp2
  go_loopw [5, 12] (fun dv iv wr => ∃ i : Nat, i ≤ n ∧ iv = .int .i64 i ∧ dv = .int .i64 (dl base most i) ∧ wr = w) (fun _ iv _ => n - (intOf iv).toNat)
  case atStart => exact ⟨0, by omega, rfl, rfl, rfl⟩
  case round =>
    obtain ⟨i, hin, rfl, rfl, rfl⟩ := hrel
    have d1 := dl_le h2 i
    have d2 := dl_ge h1 h2 i
    have dtop := fun hi => dl_top h1 h2 (i := i) hi (n - (i + 1))
    have dsuc : dl base most (i + 1) = min (2 * dl base most i) most := rfl
    have HS : Hid _ := dsuc
    have HT : Hid _ := dtop
    clear dsuc dtop
    generalize hD : dl base most i = D at *
    have HD : Hid _ := hD
    clear hD
    by_cases hlt : i < n
    · have q1 : (i : Int) < (n : Int) := by omega
      by_cases ht : most / 2 < D
      · go_wp2
        go_ret
        have := HT.out (by omega)
        rw [show i + 1 + (n - (i + 1)) = n by omega] at this
        exact ⟨by rw [this]; rfl, rfl⟩
      · have q2 : ¬ most / 2 < D := ht
        have q3 : D * 2 ≤ 2000000000 := by omega
        go_wp2
        go_roundw
        case rel => exact ⟨i + 1, by omega, by go_num, by rw [HS.out]; congr 1; omega, by simp⟩
        case measure => simp [intOf]; omega
    · obtain rfl : i = n := by omega
      have q1 : ¬ (i : Int) < (i : Int) := by omega
      go_wp2
      go_ret
      exact ⟨by rw [HD.out]; rfl, rfl⟩
end Go.Proofs
